"""Whether a bell keeps out of some places in all touches of a book."""

from truetouch.callings import rung_from_rounds
from truetouch.errors import BadBell, BadPlaces
from truetouch.folding import by_length
from truetouch.forms import is_some_ascending, is_within
from truetouch.moves import compose
from truetouch.standings import standings_reached, standings_told
from truetouch.tables import first_wrong


class KeepsOut:
    """The verdict whether a bell keeps out of the places, with the standings, or the least calling."""

    def __init__(self, book, bell, places):
        judge_bell_places(book.method, bell, places)
        callings, followers = standings_reached(book)
        self.calling = least_calling_in(book.method, bell, places, callings, followers)
        self.spot = None
        if self.calling is not None:
            rows = rung_from_rounds(book.method, self.calling)
            self.spot = min([spot for spot, row in enumerate(rows) if row.index(bell) + 1 in places])
        self.table = tuple(callings) if self.calling is None else None
        self._rows = tuple(callings) if self.calling is None else ()

    def __bool__(self):
        return self.calling is None

    def __len__(self):
        return len(self._rows)

    def __iter__(self):
        return iter(self._rows)


def judge_out(book, bell, places, table):
    """Judges a table of standings that shows that the bell keeps out of the places."""
    judge_bell_places(book.method, bell, places)
    standings = standings_told(book, table)
    told = {standing: True for standing in standings if standing is not None}
    if book.beginning not in told:
        return -1
    return first_wrong([standing is not None and keeps_on(book, bell, places, standing, told)
                        for standing in standings])


def keeps_on(book, bell, places, standing, told):
    """Whether no lead from the standing brings the bell into the places, and all its followers are told."""
    return all([onward in told and not rings_in(book.method, bell, places, standing[1], letter)
                for letter, onward in book.followers(standing)])


def least_calling_in(method, bell, places, callings, followers):
    """The least calling in whose touch the bell is in one of the places, None if there is none."""
    found = [calling + letter for standing, calling in callings.items() for letter, _ in followers[standing]
             if rings_in(method, bell, places, standing[1], letter)]
    return min(found, key=by_length) if found else None


def rings_in(method, bell, places, row, letter):
    """Whether the lead of the letter, rung from the row, rings a row with the bell in one of the places."""
    return any([compose(row, rung).index(bell) + 1 in places for rung in method.body(letter)])


def judge_bell_places(method, bell, places):
    """Raises the error that is due if this is no bell, or these are no places of the method."""
    if not is_within(bell, 1, method.stage):
        raise BadBell(bell)
    if not is_some_ascending(places, 1, method.stage):
        raise BadPlaces(places)
