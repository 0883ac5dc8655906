"""Whether all callings that a book bears are true."""

from truetouch.books import standing_told
from truetouch.callings import first_repeat, rung_from_rounds
from truetouch.errors import TooMany
from truetouch.falseness import Falseness
from truetouch.folding import by_length
from truetouch.forms import is_tuple_of
from truetouch.moves import rounds_of, step_between
from truetouch.rows import is_row
from truetouch.standings import least_callings, standings_reached
from truetouch.tables import first_wrong, rows_of

MOST_TRAILS = 2000


class TrueVerdict:
    """The verdict whether a book is true, with its trails, or the least calling that is not true."""

    def __init__(self, book):
        callings, followers = standings_reached(book)
        trails = trails_reached(book, callings, followers)
        self.calling = least_false(Falseness(book.method), callings, followers, trails)
        self.table = tuple(trails) if self.calling is None else None
        self._rows = tuple(trails) if self.calling is None else ()
        self._spots = None if self.calling is None else first_repeat(rung_from_rounds(book.method, self.calling))

    @property
    def spots(self):
        """The two spots of the calling that is not true, None if the book is true."""
        return self._spots

    def __bool__(self):
        return self.calling is None

    def __len__(self):
        return len(self._rows)

    def __iter__(self):
        return iter(self._rows)


def trails_reached(book, callings, followers):
    """For each trail of the book its least calling, in the order of these callings."""
    # A standing alone is taken for a trail on which no lead is remembered.
    def behind(trail):
        row, letter, standing = trail
        led = [(other, (row, letter, onward)) for other, onward in followers[standing]]
        if letter == "":
            return led + [(other, (standing[1], other, onward)) for other, onward in followers[standing]]
        return led

    found = least_callings(((), "", book.beginning), behind, len(callings) + MOST_TRAILS)
    if found is None:
        raise TooMany("trail")
    return {trail: calling for trail, calling in found.items() if trail[1] != ""}


def least_false(falseness, callings, followers, trails):
    """The least calling that is borne and not true, None if there is none."""
    found = [calling + letter for standing, calling in callings.items() for letter, _ in followers[standing]
             if falseness.own(letter)]
    for trail, calling in trails.items():
        for letter, _ in followers[trail[2]]:
            if does_clash(falseness, trail, letter):
                found.append(calling + letter)
    return min(found, key=by_length) if found else None


def does_clash(falseness, trail, letter):
    """Whether the lead that the trail remembers clashes with one of the letter from its standing."""
    row, first, standing = trail
    return falseness.clash(first, letter, step_between(row, standing[1]))


def judge_true(book, table):
    """Judges a table of trails."""
    falseness = Falseness(book.method)
    trails = [trail_told(row, book.method) for row in rows_of(table)]
    told = {trail: True for trail in trails if trail is not None}
    start = rounds_of(book.method.stage)
    for letter, onward in book.followers(book.beginning):
        if falseness.own(letter) or (start, letter, onward) not in told:
            return -1
    return first_wrong([trail is not None and stays_true(book, falseness, trail, told) for trail in trails])


def trail_told(thing, method):
    """The trail that a row of a table tells, None if it does not have this form."""
    if not is_tuple_of(thing, 3, 3) or not is_row(thing[0], method.stage) or thing[1] not in method:
        return None
    standing = standing_told(thing[2], method.stage)
    return None if standing is None else (tuple(thing[0]), thing[1], standing)


def stays_true(book, falseness, trail, told):
    """Whether the trail goes on truly to all followers of its standing, with all trails behind told."""
    row, first, standing = trail
    for letter, onward in book.followers(standing):
        if falseness.own(letter) or does_clash(falseness, trail, letter):
            return False
        if (row, first, onward) not in told or (standing[1], letter, onward) not in told:
            return False
    return True
