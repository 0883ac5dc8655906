"""Patterns: rows of which only some bells were heard."""

from truetouch.forms import is_tuple_of, is_within


def is_pattern(thing, stage):
    """Whether it is a tuple with a bell or None for each place, and no bell twice."""
    if not is_tuple_of(thing, stage, stage):
        return False
    bells = [bell for bell in thing if bell is not None]
    if not all([is_within(bell, 1, stage) for bell in bells]):
        return False
    return len(set(bells)) == len(bells)


def fits_pattern(row, pattern):
    """Whether the row has each bell of the pattern in its place."""
    return all([heard is None or heard == bell for bell, heard in zip(row, pattern)])
