"""The kinds of the values of a program's variables."""

from math import lcm

from truetouch.errors import TooMany
from truetouch.headmaps import HeadMaps
from truetouch.programs import variable_of

MOST_KINDS = 500


def kinds(program):
    """For each variable its name, its lag and its period."""
    return kinds_told(HeadMaps(program))


def kinds_told(maps):
    """For each variable of the program of these maps its name, its lag and its period."""
    found = {}
    many = 1
    # Variables in the body of another one come behind it, and are asked for first.
    for number in range(len(maps.outline.told) - 1, -1, -1):
        name = variable_of(maps.outline.told[number])
        if name is not None:
            found[name] = lag_and_period(maps, number, found)
            many = many * sum(found[name])
            if many > MOST_KINDS:
                raise TooMany("value")
    return tuple([(name, found[name][0], found[name][1]) for name in maps.program.variables])


def lag_and_period(maps, number, found):
    """The lag and the period of the variable of a repeat, from those of the variables in its body."""
    names = maps.outline.names_inside[number]
    lag = 0
    period = 1
    for row in tuples_below([sum(found[name]) for name in names]):
        worths = {name: worth for name, worth in zip(names, row)}
        tail, cycle = tail_and_cycle(maps.of_passes(number, worths, 1))
        lag = max(lag, tail)
        period = lcm(period, cycle)
    return lag, period


def tail_and_cycle(targets):
    """The least numbers of steps behind which all is in a cycle, and behind which all cycles are gone round."""
    tails = {}
    cycle = 1
    for start in range(len(targets)):
        passed = {}
        at = start
        while at not in tails and at not in passed:
            passed[at] = len(passed)
            at = targets[at]
        if at in passed:
            first, tail = passed[at], 0
            cycle = lcm(cycle, len(passed) - first)
        else:
            first, tail = len(passed), tails[at]
        for member, place in passed.items():
            tails[member] = tail + max(0, first - place)
    return max(tails.values()), cycle


def kind_of(worth, lag, period):
    """The least value that is alike to this one."""
    return worth if worth < lag else lag + (worth - lag) % period


def tuples_below(sizes):
    """All tuples of integers from 0, each below the size at its place, ascending."""
    rows = [()]
    for size in sizes:
        rows = [row + (number,) for row in rows for number in range(size)]
    return rows


def by_sum(row):
    """Orders values by their sums, and those of one sum as tuples."""
    return (sum(row), row)
