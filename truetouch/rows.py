"""Rows, which are also moves, and what is told of them."""

from truetouch.errors import BadBell, BadRow, BadStage, Unlike
from truetouch.forms import is_integer, is_stage, is_tuple, is_within
from truetouch.moves import compose, inverse, rounds_of, step_between


def is_row(thing, stage):
    """Whether it is a row of the stage, whatever the thing is."""
    if not is_stage(stage) or not is_tuple(thing) or len(thing) != stage:
        return False
    if not all([is_integer(bell) for bell in thing]):
        return False
    return sorted(thing) == list(range(1, stage + 1))


def rounds(stage):
    """The row with each bell in the place of its number."""
    if not is_stage(stage):
        raise BadStage(stage)
    return rounds_of(stage)


def moved(row, move):
    """The row that is moved by the move."""
    judge_rows(row, move)
    return compose(row, move)


def undone(move):
    """The move that moves this one to rounds."""
    judge_row(move)
    return inverse(move)


def step(first, second):
    """The move that moves the first row to the second."""
    judge_rows(first, second)
    return step_between(first, second)


def renamed(row, names):
    """The row with each bell b replaced by the bell that the names have in the place b."""
    judge_rows(row, names)
    return compose(names, row)


def order(move):
    """The least number of times that the move must be done to bring rounds to rounds."""
    judge_row(move)
    start = rounds_of(len(move))
    times = 1
    row = tuple(move)
    while row != start:
        row = compose(row, move)
        times += 1
    return times


def is_even(row):
    """Whether the pairs of bells that stand the wrong way round are even in number."""
    judge_row(row)
    swapped = [1 for at, bell in enumerate(row) for later in row[at + 1:] if later < bell]
    return len(swapped) % 2 == 0


def place(row, bell):
    """The place in which the bell stands in the row."""
    judge_row(row)
    if not is_within(bell, 1, len(row)):
        raise BadBell(bell)
    return row.index(bell) + 1


def cycles(move):
    """The cycles of the move, in the order of their least places."""
    judge_row(move)
    onward = inverse(move)
    seen = {}
    found = []
    for least in range(1, len(move) + 1):
        if least not in seen:
            cycle = cycle_from(onward, least)
            found.append(cycle)
            for member in cycle:
                seen[member] = True
    return tuple(found)


def cycle_from(onward, least):
    """The places to which the bell in the least one goes, and so on, until it would come again."""
    cycle = [least]
    member = onward[least - 1]
    while member != least:
        cycle.append(member)
        member = onward[member - 1]
    return tuple(cycle)


def judge_row(row):
    """Raises the error that is due if the thing is no row of any stage."""
    if not is_tuple(row) or not is_row(row, len(row)):
        raise BadRow(row)


def judge_rows(first, second):
    """Raises the error that is due if the two things are not rows of one stage."""
    judge_row(first)
    judge_row(second)
    if len(first) != len(second):
        raise Unlike("stage")
