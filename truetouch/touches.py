"""Touches: the rows that are rung when a calling is called."""

from truetouch.callings import MOST_LETTERS, first_repeat, heads_rung, judge_calling, rows_rung
from truetouch.errors import BadCalling, BadRow, BadTimes, NoSpot
from truetouch.forms import is_integer, is_within
from truetouch.moves import rounds_of
from truetouch.rows import is_row


class Touch:
    """A touch of a method: a calling that is rung from a start."""

    def __init__(self, method, calling, start=None):
        judge_calling(calling, method)
        if start is not None and not is_row(start, method.stage):
            raise BadRow(start)
        self.method = method
        self.calling = calling
        self.start = rounds_of(method.stage) if start is None else tuple(start)
        self._heads = heads_rung(method, calling, self.start)
        self._rows = rows_rung(method, calling, self._heads)

    @property
    def heads(self):
        """The head of each lead, and the end."""
        return self._heads

    @property
    def end(self):
        """The last head, which is not rung."""
        return self._heads[-1]

    @property
    def is_round(self):
        """Whether the touch has a lead and ends where it began."""
        return len(self.calling) > 0 and self._heads[-1] == self.start

    @property
    def is_true(self):
        """Whether no row is rung twice."""
        return first_repeat(self._rows) is None

    @property
    def spots(self):
        """The two spots of the first row that is rung again, None if the touch is true."""
        return first_repeat(self._rows)

    def __len__(self):
        return len(self._rows)

    def __iter__(self):
        return iter(self._rows)

    def __getitem__(self, at):
        if not is_within(at, 0, len(self._rows) - 1):
            raise NoSpot(at)
        return self._rows[at]

    def __eq__(self, other):
        return (isinstance(other, Touch) and self.method == other.method
                and self.calling == other.calling and self.start == other.start)

    def __add__(self, other):
        judge_calling(other, self.method, MOST_LETTERS - len(self.calling))
        return Touch(self.method, self.calling + other, self.start)

    def __mul__(self, other):
        if not is_integer(other) or other < 0:
            raise BadTimes(other)
        if len(self.calling) * other > MOST_LETTERS:
            raise BadCalling(-1)
        # A count can be far greater than any string is long, also where nothing is to be repeated.
        times = min(other, MOST_LETTERS)
        return Touch(self.method, self.calling * times, self.start)
