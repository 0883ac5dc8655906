"""Watches: the fewest places by which the doubt always ends."""

from truetouch.errors import BadDelay, TooMany
from truetouch.forms import is_within
from truetouch.watchers import Watch, judge_slip_number

GREATEST_DELAY = 100
MOST_BELLS = 5


def watches(method, slips, delay):
    """The tuples of places with which the doubt ends with at most this delay, and with no part of them."""
    judge_slip_number(slips)
    if not is_within(delay, 0, GREATEST_DELAY):
        raise BadDelay(delay)
    if method.stage > MOST_BELLS:
        raise TooMany("bell")
    found = []
    for places in tuples_of_places(method.stage):
        if not any([is_part(told, places) for told in found]):
            watch = Watch(method, places, slips)
            if watch.delay is not None and watch.delay <= delay:
                found.append(places)
    return tuple(found)


def tuples_of_places(stage):
    """All ascending tuples of places, ordered by their lengths, then as tuples."""
    told = [()]
    groups = told
    for _ in range(stage):
        groups = [places + (place,) for places in groups for place in range(1, stage + 1)
                  if places == () or places[-1] < place]
        told = told + groups
    return told


def is_part(places, others):
    """Whether all these places are among the others."""
    return all([place in others for place in places])
