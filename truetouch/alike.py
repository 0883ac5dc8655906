"""Whether two methods come round for the same callings."""

from truetouch.errors import TooMany, Unlike
from truetouch.forms import is_tuple_of
from truetouch.moves import compose, rounds_of
from truetouch.rows import is_row
from truetouch.standings import least_callings
from truetouch.tables import first_wrong, rows_of

MOST_PAIRS = 800


class RoundAlike:
    """The verdict whether two methods come round alike, with the pairs of heads, or the least calling."""

    def __init__(self, first, second):
        judge_same_letters(first, second)
        callings = head_pairs(first, second)
        apart = [pair for pair in callings if not are_round_alike(first, second, pair)]
        self.calling = callings[apart[0]] if apart else None
        self.comer = (0 if apart[0][0] == rounds_of(first.stage) else 1) if apart else None
        self.table = None if apart else tuple(callings)
        self._rows = () if apart else self.table

    def __bool__(self):
        return self.calling is None

    def __len__(self):
        return len(self._rows)

    def __iter__(self):
        return iter(self._rows)


def judge_round_pairs(first, second, table):
    """Judges a table of pairs of heads."""
    judge_same_letters(first, second)
    rows = [rows_told(row, first, second) for row in rows_of(table)]
    told = {row: True for row in rows if row is not None}
    if (rounds_of(first.stage), rounds_of(second.stage)) not in told:
        return -1
    return first_wrong([row is not None and are_round_alike(first, second, row)
                        and all([rows_behind(first, second, row, letter) in told for letter in first.letters])
                        for row in rows])


def judge_same_letters(first, second):
    """Raises the error that is due if the methods do not have the same letters."""
    if first.letters != second.letters:
        raise Unlike("letters")


def head_pairs(first, second):
    """For each pair of heads at which touches of one calling end its least calling, in order."""
    def behind(pair):
        return [(letter, rows_behind(first, second, pair, letter)) for letter in first.letters]

    callings = least_callings((rounds_of(first.stage), rounds_of(second.stage)), behind, MOST_PAIRS)
    if callings is None:
        raise TooMany("pair")
    return callings


def rows_behind(first, second, pair, letter):
    """The rows to which the leads of the letter lead in both methods."""
    return (compose(pair[0], first.head(letter)), compose(pair[1], second.head(letter)))


def are_round_alike(first, second, pair):
    """Whether both of the rows are rounds, or neither is."""
    return (pair[0] == rounds_of(first.stage)) == (pair[1] == rounds_of(second.stage))


def rows_told(thing, first, second):
    """The pair of rows that a row of a table tells, None if it does not have this form."""
    if not is_tuple_of(thing, 2, 2) or not is_row(thing[0], first.stage) or not is_row(thing[1], second.stage):
        return None
    return (tuple(thing[0]), tuple(thing[1]))
