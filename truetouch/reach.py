"""Reached rows: where the words of a menu lead."""

from truetouch.changes import change_move, judge_different
from truetouch.errors import BadMenu, BadRow, BadStage, TooMany, Unreached
from truetouch.forms import as_tuples, is_letter, is_stage, is_tuple_of
from truetouch.moves import compose, step_between
from truetouch.paths import farthest_rows, least_words, menu_of_method
from truetouch.rows import is_row
from truetouch.tables import first_wrong, rows_of

MOST_PAIRS = 8
LETTERS = "abcdefgh"


class Reach:
    """The rows to which the words of a menu lead from rounds, in the order of their least words."""

    def __init__(self, stage, menu):
        judge_menu(stage, menu)
        self.stage = stage
        self.menu = as_tuples(menu)
        words = least_words(stage, sorted(self.menu))
        if words is None:
            raise TooMany("row")
        self._words = words

    @classmethod
    def by_method(cls, method):
        """The reached rows of the menu of a method."""
        return cls(method.stage, menu_of_method(method))

    @classmethod
    def by_changes(cls, stage, changes):
        """The reached rows of the menu of some changes."""
        judge_changes(stage, changes)
        return cls(stage, [(letter, change_move(change, stage)) for letter, change in zip(LETTERS, changes)])

    @property
    def farthest(self):
        """The rows whose least words are longest, in order."""
        return farthest_rows(self._words)

    def word_between(self, first, second):
        """The least word that leads from the first row to the second."""
        for row in (first, second):
            if not is_row(row, self.stage):
                raise BadRow(row)
        return self[step_between(first, second)]

    def class_of(self, row):
        """The rows to which words lead from this row, ascending."""
        if not is_row(row, self.stage):
            raise BadRow(row)
        return tuple(sorted([compose(row, move) for move in self._words]))

    def __len__(self):
        return len(self._words)

    def __iter__(self):
        return iter(self._words)

    def __contains__(self, x):
        return is_row(x, self.stage) and tuple(x) in self._words

    def __getitem__(self, at):
        if at not in self:
            raise Unreached(at)
        return self._words[tuple(at)]


def judge_apart(stage, menu, start, goal, table):
    """Judges a table that shows that no word leads from the start to the goal."""
    judge_menu(stage, menu)
    for row in (start, goal):
        if not is_row(row, stage):
            raise BadRow(row)
    rows = [tuple(row) if is_row(row, stage) else None for row in rows_of(table)]
    told = {row: True for row in rows if row is not None}
    if tuple(start) not in told:
        return -1
    if tuple(goal) in told:
        return -2
    return first_wrong([row is not None and keeps_in(row, menu, told) for row in rows])


def keeps_in(row, menu, told):
    """Whether each move of the menu leads from the row to one of those told."""
    return all([compose(row, move) in told for _, move in menu])


def judge_menu(stage, menu):
    """Raises the error that is due if the stage is none, or this is no menu of it."""
    if not is_stage(stage):
        raise BadStage(stage)
    if not is_tuple_of(menu, 1, MOST_PAIRS):
        raise BadMenu(-1)
    seen = {}
    for number, pair in enumerate(menu):
        if not is_tuple_of(pair, 2, 2) or not is_letter(pair[0]) or not is_row(pair[1], stage):
            raise BadMenu(number)
        if pair[0] in seen:
            raise BadMenu(number)
        seen[pair[0]] = True


def judge_changes(stage, changes):
    """Raises the error that is due if the stage is none, or these are no changes for a menu of it."""
    if not is_stage(stage):
        raise BadStage(stage)
    if not is_tuple_of(changes, 1, MOST_PAIRS):
        raise BadMenu(-1)
    judge_different(changes, stage)
