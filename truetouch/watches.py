"""Watches: the fewest places by which the doubt always ends."""

from truetouch.errors import BadDelay, TooMany
from truetouch.forms import is_within
from truetouch.parts import all_parts, is_part
from truetouch.watchers import Watch, judge_slip_number

GREATEST_DELAY = 100
MOST_BELLS = 5


def watches(method, slips, delay):
    """The tuples of places with which the doubt ends with at most this delay, and with no part of them."""
    judge_slip_number(slips)
    if not is_within(delay, 0, GREATEST_DELAY):
        raise BadDelay(delay)
    if method.stage > MOST_BELLS:
        raise TooMany("bell")
    found = []
    for places in all_parts(method.stage):
        if not any([is_part(told, places) for told in found]):
            watch = Watch(method, places, slips)
            if watch.delay is not None and watch.delay <= delay:
                found.append(places)
    return tuple(found)
