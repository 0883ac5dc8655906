"""Whether two bells, of two methods, have one line for all callings."""

from truetouch.courses import work
from truetouch.errors import BadBell, Unlike
from truetouch.forms import is_tuple_of, is_within
from truetouch.tables import first_wrong, rows_of


class LinePair:
    """The verdict whether two bells have one line, with the pairs of places, or the least calling."""

    def __init__(self, first, bell, second, other):
        judge_line_pair(first, bell, second, other)
        pairs, calling = pairs_reached(first, second, (bell, other))
        self.calling = calling
        self.table = tuple(pairs) if calling is None else None
        self._rows = self.table if calling is None else ()

    def __bool__(self):
        return self.calling is None

    def __len__(self):
        return len(self._rows)

    def __iter__(self):
        return iter(self._rows)


def judge_lines(first, bell, second, other, table):
    """Judges a table of pairs of places."""
    judge_line_pair(first, bell, second, other)
    rows = [pair_told(row, first, second) for row in rows_of(table)]
    told = {row: True for row in rows if row is not None}
    if (bell, other) not in told:
        return -1
    return first_wrong([row is not None and is_closed(first, second, row, told) for row in rows])


def judge_line_pair(first, bell, second, other):
    """Raises the error that is due if the lines of these bells cannot be compared."""
    if not is_within(bell, 1, first.stage):
        raise BadBell(bell)
    if not is_within(other, 1, second.stage):
        raise BadBell(other)
    if first.letters != second.letters:
        raise Unlike("letters")
    if first.size != second.size:
        raise Unlike("size")


def pairs_reached(first, second, start):
    """The pairs of places in the order of their least callings, and the least one for which the lines differ."""
    callings = {start: ""}
    if start[0] != start[1]:
        return callings, ""
    pairs = [start]
    at = 0
    while at < len(pairs):
        pair = pairs[at]
        for letter in first:
            calling = callings[pair] + letter
            onward = pair_behind(first, second, pair, letter)
            if onward is None:
                return callings, calling
            if onward not in callings:
                callings[onward] = calling
                pairs.append(onward)
        at += 1
    return callings, None


def pair_behind(first, second, pair, letter):
    """The pair of the last places of both works under the letter, None if the works differ."""
    led = work(first, letter, pair[0])
    other_led = work(second, letter, pair[1])
    return (led[-1], other_led[-1]) if led == other_led else None


def pair_told(thing, first, second):
    """The pair of places that a row of a table tells, None if it does not have this form."""
    if not is_tuple_of(thing, 2, 2):
        return None
    if not is_within(thing[0], 1, first.stage) or not is_within(thing[1], 1, second.stage):
        return None
    return (thing[0], thing[1])


def is_closed(first, second, pair, told):
    """Whether both places of the pair are equal, and so is all that is behind it, which is told."""
    if pair[0] != pair[1]:
        return False
    # Where the works differ, what is behind is None, which is never told.
    return all([pair_behind(first, second, pair, letter) in told for letter in first])
