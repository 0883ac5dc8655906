"""The heads of a method: the rows at which its touches from rounds end."""

from truetouch.errors import TooMany, Unreached
from truetouch.paths import farthest_rows, least_words, menu_of_method
from truetouch.rows import is_row


class Heads:
    """All heads of a method, in the order of the least callings that lead to them."""

    def __init__(self, method):
        callings = least_words(method.stage, menu_of_method(method))
        if callings is None:
            raise TooMany("head")
        self.method = method
        self._callings = callings

    @property
    def farthest(self):
        """The heads whose least callings are longest, in order."""
        return farthest_rows(self._callings)

    def __len__(self):
        return len(self._callings)

    def __iter__(self):
        return iter(self._callings)

    def __contains__(self, x):
        return is_row(x, self.method.stage) and tuple(x) in self._callings

    def __getitem__(self, at):
        if at not in self:
            raise Unreached(at)
        return self._callings[tuple(at)]
