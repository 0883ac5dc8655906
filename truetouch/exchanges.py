"""Exchanges: two bells change their places, and the fewest of them that lead from a row to a goal."""

from truetouch.errors import BadBell
from truetouch.forms import is_tuple_of, is_within
from truetouch.moves import exchange
from truetouch.rows import judge_row, judge_rows


def exchanges(row, goal):
    """The fewest exchanges that lead from the row to the goal, for each place in turn."""
    judge_rows(row, goal)
    told = []
    present = tuple(row)
    for at, bell in enumerate(goal):
        other = present[at]
        if other != bell:
            told.append(smaller_first(bell, other))
            present = exchange(present, bell, other)
    return tuple(told)


def neighbour_exchanges(row, goal):
    """The fewest exchanges of bells in neighbouring places that lead from the row to the goal."""
    judge_rows(row, goal)
    told = []
    present = tuple(row)
    at = first_turned(present, goal)
    while at is not None:
        told.append(smaller_first(present[at], present[at + 1]))
        present = exchange(present, present[at], present[at + 1])
        at = first_turned(present, goal)
    return tuple(told)


def exchanged(row, *pairs):
    """The row behind these exchanges, done one after the other."""
    judge_row(row)
    for pair in pairs:
        if not is_exchange(pair, len(row)):
            raise BadBell(pair)
    present = tuple(row)
    for bell, other in pairs:
        present = exchange(present, bell, other)
    return present


def is_exchange(thing, stage):
    """Whether it is a pair of different bells, the smaller one first."""
    return is_tuple_of(thing, 2, 2) and is_within(thing[0], 1, stage) and is_within(thing[1], thing[0] + 1, stage)


def smaller_first(bell, other):
    """The pair of two bells, the smaller one first."""
    return (min(bell, other), max(bell, other))


def first_turned(row, goal):
    """The first index at which two neighbours stand the other way round in the goal, None if there is none."""
    for at in range(len(row) - 1):
        if goal.index(row[at]) > goal.index(row[at + 1]):
            return at
    return None
