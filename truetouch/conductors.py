"""Conductors who see one bell alone, and keep a memory."""

from truetouch.books import Book
from truetouch.errors import BadBell, BadRow, BadTable
from truetouch.forms import as_tuples, is_tuple_of, is_within
from truetouch.moves import compose, rounds_of
from truetouch.rows import is_row

MOST_MEMORIES = 4


class Conductor:
    """A placed conductor: what he calls at each place of his bell, with each memory."""

    def __init__(self, method, bell, table):
        if not is_within(bell, 1, method.stage):
            raise BadBell(bell)
        judge_table(method, table)
        self.method = method
        self.bell = bell
        self.table = as_tuples(table)

    def __call__(self, memory, row):
        if not is_within(memory, 0, len(self.table) - 1):
            raise BadTable(memory)
        if not is_row(row, self.method.stage):
            raise BadRow(row)
        return self.table[memory][row.index(self.bell)]

    def outcome(self, start=None):
        """How he goes on from a start row, which is rounds unless told."""
        if start is not None and not is_row(start, self.method.stage):
            raise BadRow(start)
        row = rounds_of(self.method.stage) if start is None else tuple(start)
        return going_on(self, row, row)

    def as_book(self):
        """The book that bears just the beginnings of what he calls from rounds."""
        entries = [(memory, ((self.bell, (at + 1,)),), letter, onward)
                   for memory, row in enumerate(self.table) for at, (letter, onward) in enumerate(row)]
        return Book(self.method, entries)

    def __len__(self):
        return len(self.table)

    def __eq__(self, other):
        return (isinstance(other, Conductor) and self.method == other.method
                and self.bell == other.bell and self.table == other.table)


def judge_table(method, table):
    """Raises the error that is due if this is no table of a conductor over the method."""
    if not is_tuple_of(table, 1, MOST_MEMORIES):
        raise BadTable(-1)
    for number, row in enumerate(table):
        if not is_tuple_of(row, method.stage, method.stage):
            raise BadTable(number)
        if not all([is_deed(thing, method, len(table)) for thing in row]):
            raise BadTable(number)


def is_deed(thing, method, many):
    """Whether it is a pair of a letter of the method and one of so many memories."""
    return is_tuple_of(thing, 2, 2) and thing[0] in method and is_within(thing[1], 0, many - 1)


def led_on(conductor, memory, row):
    """The letter that the conductor calls, and the pair of memory and row behind this lead."""
    letter, onward = conductor.table[memory][row.index(conductor.bell)]
    return letter, (onward, compose(row, conductor.method.head(letter)))


def going_on(conductor, start, goal):
    """How the conductor goes on from the start until the row is the goal, or for ever if it never is."""
    pair = (0, start)
    spots = {pair: 0}
    calling = ""
    while True:
        letter, pair = led_on(conductor, pair[0], pair[1])
        calling = calling + letter
        if pair[1] == goal:
            return ("round", calling)
        if pair in spots:
            return ("loop", calling[:spots[pair]], calling[spots[pair]:])
        spots[pair] = len(calling)
