"""Courses, hunts and works of a method, and the line of a bell."""

from truetouch.errors import BadBell, BadPlace
from truetouch.forms import is_within
from truetouch.rows import cycles, order


def course(method, letter="p"):
    """The order of the head move of the letter."""
    return order(method.head(letter))


def hunts(method):
    """The places that the head moves of all letters keep, ascending."""
    moves = [method.head(letter) for letter in method]
    return tuple([place for place in range(1, method.stage + 1)
                  if all([move[place - 1] == place for move in moves])])


def works(method, letter="p"):
    """The cycles of the head move of the letter."""
    return cycles(method.head(letter))


def work(method, letter, place):
    """The places through which the lead of the letter leads the bell that stands in this place."""
    rows = (*method.body(letter), method.head(letter))
    if not is_within(place, 1, method.stage):
        raise BadPlace(place)
    # A lead begins in rounds here, where the bell in a place has the number of this place.
    return tuple([row.index(place) + 1 for row in rows])


def line(touch, bell):
    """The places of the bell in the rows of the touch and in its end, one by one."""
    if not is_within(bell, 1, touch.method.stage):
        raise BadBell(bell)
    rows = [*touch, touch.end]
    for row in rows:
        yield row.index(bell) + 1
