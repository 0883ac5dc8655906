"""Rows as moves, without judging them: what all other files reckon with."""


def rounds_of(stage):
    """Each bell in the place of its number."""
    return tuple(range(1, stage + 1))


def compose(row, move):
    """The row that is moved by the move."""
    return tuple([row[place - 1] for place in move])


def inverse(move):
    """The move that moves this one to rounds."""
    return tuple([move.index(place) + 1 for place in range(1, len(move) + 1)])


def step_between(first, second):
    """The move that moves the first row to the second."""
    return tuple([first.index(bell) + 1 for bell in second])


def rows_of_stage(stage):
    """All rows of the stage, ascending."""
    rows = [()]
    for _ in range(stage):
        rows = [row + (bell,) for row in rows for bell in range(1, stage + 1) if bell not in row]
    return rows


def exchange(row, bell, other):
    """The row in which two bells have exchanged their places."""
    names = {bell: other, other: bell}
    return tuple([names.get(told, told) for told in row])
