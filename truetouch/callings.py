"""Judges callings, and rings them."""

from truetouch.errors import BadCalling
from truetouch.moves import compose, rounds_of

MOST_LETTERS = 400


def judge_calling(calling, method, most=MOST_LETTERS):
    """Raises the error that is due if this is no calling of at most so many letters of the method."""
    if not isinstance(calling, str) or len(calling) > most:
        raise BadCalling(-1)
    for number, letter in enumerate(calling):
        if letter not in method:
            raise BadCalling(number)


def heads_rung(method, calling, start):
    """The heads of the leads of a calling, and the end."""
    heads = [start]
    for letter in calling:
        heads.append(compose(heads[-1], method.head(letter)))
    return tuple(heads)


def rows_rung(method, calling, heads):
    """The rows that the leads of a calling ring from these heads."""
    rows = []
    for head, letter in zip(heads, calling):
        for row in method.body(letter):
            rows.append(compose(head, row))
    return tuple(rows)


def rung_from_rounds(method, calling):
    """The rows that a calling, which may be of any length, rings from rounds."""
    return rows_rung(method, calling, heads_rung(method, calling, rounds_of(method.stage)))


def first_repeat(rows):
    """The least spot whose row was rung earlier, behind that earlier spot; None if there is none."""
    spots = {}
    for spot, row in enumerate(rows):
        if row in spots:
            return (spots[row], spot)
        spots[row] = spot
    return None
