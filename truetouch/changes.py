"""Changes, which are told by their kept places."""

from truetouch.errors import BadChange, BadStage
from truetouch.forms import is_ascending, is_stage


def is_change(thing, stage):
    """Whether it is a change of the stage, whatever the thing is."""
    if not is_stage(stage) or not is_ascending(thing, 1, stage):
        return False
    before = 0
    for kept in (*thing, stage + 1):
        # Between two kept places next to one another stands a run, which may be empty.
        if (kept - before - 1) % 2 != 0:
            return False
        before = kept
    return True


def changes(stage):
    """All changes of the stage, ascending, one by one."""
    if not is_stage(stage):
        raise BadStage(stage)
    for change in sorted(changes_from(1, stage)):
        yield change


def changes_from(least, stage):
    """All ways to keep places from the least one on, as if the places began there."""
    if least > stage:
        return [()]
    told = [(least,) + rest for rest in changes_from(least + 1, stage)]
    if least < stage:
        return told + changes_from(least + 2, stage)
    return told


def move_of(change, stage):
    """The move by which the change is done."""
    judge_change(change, stage)
    return change_move(change, stage)


def crossings(change, stage):
    """The pairs of places whose bells cross, ascending."""
    judge_change(change, stage)
    return crossed_pairs(change, stage)


def write_change(change):
    """The text of a change of any stage."""
    if len(change) == 0:
        return "x"
    return "".join([str(kept) for kept in change])


def change_move(change, stage):
    """The move of a change that has been judged."""
    move = list(range(1, stage + 1))
    for low, high in crossed_pairs(change, stage):
        move[low - 1] = high
        move[high - 1] = low
    return tuple(move)


def crossed_pairs(change, stage):
    """The pairs of places that cross in a change that has been judged."""
    pairs = []
    low = 1
    while low < stage:
        if low in change:
            low += 1
        else:
            pairs.append((low, low + 1))
            low += 2
    return tuple(pairs)


def judge_change(change, stage):
    """Raises the error that is due if the stage or the change is none."""
    if not is_stage(stage):
        raise BadStage(stage)
    if not is_change(change, stage):
        raise BadChange(change)


def judge_different(told, stage):
    """Raises the error that is due if these are not different changes of the stage."""
    seen = {}
    for change in told:
        if not is_change(change, stage) or tuple(change) in seen:
            raise BadChange(change)
        seen[tuple(change)] = True
