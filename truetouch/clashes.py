"""Whether the leads of two methods clash in the same callings."""

from truetouch.alike import judge_same_letters, rows_behind, rows_told
from truetouch.errors import TooMany
from truetouch.falseness import Falseness
from truetouch.forms import is_tuple_of
from truetouch.moves import rounds_of
from truetouch.standings import least_callings
from truetouch.tables import first_wrong, rows_of

MOST_TRIPLES = 2000


class ClashAlike:
    """The verdict whether two methods clash alike, with the triples, or the least calling."""

    def __init__(self, first, second):
        judge_same_letters(first, second)
        triples = triples_reached(first, second)
        self.calling, self.clasher = first_apart(Falseness(first), Falseness(second), triples)
        self.table = tuple(triples) if self.calling is None else None
        self._rows = tuple(triples) if self.calling is None else ()

    def __bool__(self):
        return self.calling is None

    def __len__(self):
        return len(self._rows)

    def __iter__(self):
        return iter(self._rows)


def judge_clashes(first, second, table):
    """Judges a table of triples."""
    judge_same_letters(first, second)
    falseness, other = Falseness(first), Falseness(second)
    triples = [triple_told(row, first, second) for row in rows_of(table)]
    told = {triple: True for triple in triples if triple is not None}
    for letter in first.letters:
        if falseness.own(letter) != other.own(letter) or (letter, first.head(letter), second.head(letter)) not in told:
            return -1
    return first_wrong([triple is not None and is_closed(falseness, other, triple, told) for triple in triples])


def triples_reached(first, second):
    """For each triple the least of its callings, in order."""
    # Ahead of all callings stand both rounds, without a letter with which the calling begins.
    start = ("", rounds_of(first.stage), rounds_of(second.stage))

    def behind(triple):
        return [(letter, triple_behind(first, second, triple, letter)) for letter in first.letters]

    callings = least_callings(start, behind, MOST_TRIPLES + 1)
    if callings is None:
        raise TooMany("triple")
    return {triple: calling for triple, calling in callings.items() if triple != start}


def triple_behind(first, second, triple, letter):
    """The triple behind one more letter, which is the first letter if there is none yet."""
    row, other_row = rows_behind(first, second, triple[1:], letter)
    return (letter if triple[0] == "" else triple[0], row, other_row)


def first_apart(falseness, other, triples):
    """The least calling whose first and last lead clash in one method only, and in which; two None without one."""
    letters = falseness.method.letters
    for letter in letters:
        if falseness.own(letter) != other.own(letter):
            return letter, 0 if falseness.own(letter) else 1
    for triple, calling in triples.items():
        for letter in letters:
            does_clash = falseness.clash(triple[0], letter, triple[1])
            if does_clash != other.clash(triple[0], letter, triple[2]):
                return calling + letter, 0 if does_clash else 1
    return None, None


def triple_told(thing, first, second):
    """The triple that a row of a table tells, None if it does not have this form."""
    if not is_tuple_of(thing, 3, 3) or thing[0] not in first:
        return None
    rows = rows_told(thing[1:], first, second)
    return None if rows is None else (thing[0], rows[0], rows[1])


def is_closed(falseness, other, triple, told):
    """Whether for each letter the leads clash in both methods or in neither, and the triple behind it is told."""
    first, second = falseness.method, other.method
    for letter in first.letters:
        if falseness.clash(triple[0], letter, triple[1]) != other.clash(triple[0], letter, triple[2]):
            return False
        if triple_behind(first, second, triple, letter) not in told:
            return False
    return True
