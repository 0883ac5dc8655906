"""The standings of a book, with the least callings that lead to them."""

from truetouch.books import standing_told
from truetouch.errors import NoStanding
from truetouch.standings import standings_reached


class Outlook:
    """All standings of a book, in the order of their least callings."""

    def __init__(self, book):
        callings, _ = standings_reached(book)
        self.book = book
        self._callings = callings
        self._stuck = tuple([standing for standing in callings if book.is_stuck(standing)])

    @property
    def stuck(self):
        """The standings that are stuck, in order."""
        return self._stuck

    def __len__(self):
        return len(self._callings)

    def __iter__(self):
        return iter(self._callings)

    def __contains__(self, x):
        return standing_told(x, self.book.method.stage) in self._callings

    def __getitem__(self, at):
        if at not in self:
            raise NoStanding(at)
        return self._callings[standing_told(at, self.book.method.stage)]
