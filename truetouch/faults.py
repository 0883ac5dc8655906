"""The faults that one slip can make."""

from truetouch.changes import change_move, changes
from truetouch.errors import BadKind
from truetouch.moves import compose, exchange, rounds_of, step_between


def faults_of(method, kind):
    """The rows other than rounds that can be the fault behind a lead with one slip of this kind, ascending."""
    if kind == "mistaken":
        found = mistaken_faults(method)
    elif kind == "crossed":
        found = crossed_faults(method)
    elif kind == "swapped":
        found = swapped_faults(method)
    else:
        raise BadKind(kind)
    start = rounds_of(method.stage)
    return tuple(sorted({row for row in found if row != start}))


def mistaken_faults(method):
    """The steps from the head move of each letter to that of each one."""
    moves = [method.head(letter) for letter in method]
    return [step_between(meant, rung) for meant in moves for rung in moves]


def crossed_faults(method):
    """The steps to what is rung when any change of the stage is done at any index of any lead."""
    moves = [change_move(change, method.stage) for change in changes(method.stage)]
    found = []
    for letter in method:
        end = method.head(letter)
        rows = (*method.body(letter), end)
        for ahead, behind in zip(rows, rows[1:]):
            rest = step_between(behind, end)
            found.extend([step_between(end, compose(compose(ahead, move), rest)) for move in moves])
    return found


def swapped_faults(method):
    """The exchanges of all pairs of places, since the bells to be swapped can stand anywhere."""
    start = rounds_of(method.stage)
    return [exchange(start, place, other) for place in start for other in start]
