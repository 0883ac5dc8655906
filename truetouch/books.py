"""Books: which leads a conductor can call, by what he sees at a head."""

from truetouch.callings import judge_calling
from truetouch.errors import BadEntry, NoStanding, TooMany, Unlike
from truetouch.forms import as_tuples, is_ascending, is_some_ascending, is_tuple, is_tuple_of, is_within
from truetouch.moves import compose, rounds_of
from truetouch.rows import is_row

MOST_ENTRIES = 60
GREATEST_STATE = 29
HOME_STATE = -1


class Book:
    """A book of entries over a method."""

    HOME = -1

    def __init__(self, method, entries=()):
        judge_entries(method, entries)
        self.method = method
        self.entries = as_tuples(entries)
        self._at_state = entries_at_states(self.entries)

    @property
    def beginning(self):
        """The first standing."""
        return (0, rounds_of(self.method.stage))

    def followers(self, standing):
        """The pairs of a letter and a standing to which the entries lead from here, ascending."""
        judge_standing(standing, self.method.stage)
        return followers_of(self, standing[0], tuple(standing[1]))

    def is_stuck(self, standing):
        """Whether nothing follows here, and this is not home."""
        judge_standing(standing, self.method.stage)
        state, row = standing
        if state == HOME_STATE and tuple(row) == rounds_of(self.method.stage):
            return False
        return len(followers_of(self, state, tuple(row))) == 0

    def bears(self, calling):
        """Whether entries lead on from the first standing by all letters of the calling."""
        judge_calling(calling, self.method)
        standings = [self.beginning]
        for letter in calling:
            led = [onward for state, row in standings
                   for told, onward in followers_of(self, state, row) if told == letter]
            standings = sorted(set(led))
        return len(standings) > 0

    def entries_at(self, state):
        """The entries that have this state, in order."""
        return self._at_state.get(state, ())

    def without(self, number):
        """The book without the entry with this number."""
        if not is_within(number, 0, len(self.entries) - 1):
            raise BadEntry(number)
        return Book(self.method, self.entries[:number] + self.entries[number + 1:])

    def __len__(self):
        return len(self.entries)

    def __iter__(self):
        return iter(self.entries)

    def __eq__(self, other):
        return isinstance(other, Book) and self.method == other.method and self.entries == other.entries

    def __add__(self, other):
        if self.method != other.method:
            raise Unlike("method")
        return Book(self.method, self.entries + other.entries)


def entries_at_states(entries):
    """For each state the entries that have it, in order."""
    found = {}
    for entry in entries:
        found[entry[0]] = found.get(entry[0], ()) + (entry,)
    return found


def followers_of(book, state, row):
    """The followers of a standing that has been judged."""
    start = rounds_of(book.method.stage)
    led = []
    for _, wants, letter, onward in book.entries_at(state):
        if all([row.index(bell) + 1 in places for bell, places in wants]):
            row_led = compose(row, book.method.head(letter))
            led.append((letter, (HOME_STATE if row_led == start else onward, row_led)))
    return tuple(sorted(set(led)))


def judge_entries(method, entries):
    """Raises the error that is due if these are no entries over the method."""
    if not is_tuple(entries):
        raise BadEntry(-1)
    for number, entry in enumerate(entries):
        if not is_entry(entry, method):
            raise BadEntry(number)
    if len(entries) > MOST_ENTRIES:
        raise TooMany("entry")


def is_entry(thing, method):
    """Whether it is an entry over the method."""
    if not is_tuple_of(thing, 4, 4):
        return False
    state, wants, letter, onward = thing
    if not is_within(state, 0, GREATEST_STATE) or not is_within(onward, 0, GREATEST_STATE):
        return False
    return are_wants(wants, method.stage) and letter in method


def are_wants(thing, stage):
    """Whether it is a tuple of pairs of a bell and some places, with bells that rise."""
    if not is_tuple(thing) or not all([is_tuple_of(want, 2, 2) for want in thing]):
        return False
    if not is_ascending([bell for bell, _ in thing], 1, stage):
        return False
    return all([is_some_ascending(places, 1, stage) for _, places in thing])


def judge_standing(thing, stage):
    """Raises the error that is due if this is no pair of a state, or of the one at home, and a row."""
    if not is_standing(thing, stage):
        raise NoStanding(thing)


def is_standing(thing, stage):
    """Whether it is a pair of a state, or of the one at home, and a row of the stage."""
    return is_tuple_of(thing, 2, 2) and is_within(thing[0], HOME_STATE, GREATEST_STATE) and is_row(thing[1], stage)


def standing_told(thing, stage):
    """The standing that the thing is, with tuples alone, None if it is none."""
    return (thing[0], tuple(thing[1])) if is_standing(thing, stage) else None


def home_of(book):
    """The standing at home."""
    return (HOME_STATE, rounds_of(book.method.stage))
