"""Whether a book can come round."""

from truetouch.books import home_of
from truetouch.standings import standings_reached, standings_told
from truetouch.tables import first_wrong


class CanVerdict:
    """The verdict whether a book bears a calling that leads home, with the least one, or the standings."""

    def __init__(self, book):
        callings, _ = standings_reached(book)
        self.calling = callings.get(home_of(book))
        self.table = tuple(callings) if self.calling is None else None
        self._rows = tuple(callings) if self.calling is None else ()

    def __bool__(self):
        return self.calling is not None

    def __len__(self):
        return len(self._rows)

    def __iter__(self):
        return iter(self._rows)


def judge_never(book, table):
    """Judges a table of standings that shows that the book never comes round."""
    standings = standings_told(book, table)
    told = {standing: True for standing in standings if standing is not None}
    if book.beginning not in told:
        return -1
    return first_wrong([standing is not None and stays_out(book, standing, told) for standing in standings])


def stays_out(book, standing, told):
    """Whether the standing is not home, and all its followers are told."""
    return standing != home_of(book) and all([onward in told for _, onward in book.followers(standing)])
