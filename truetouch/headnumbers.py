"""The heads of a method by their numbers."""

from truetouch.heads import Heads
from truetouch.moves import compose


class HeadNumbers:
    """The heads of a method, their numbers in this order, and the number to which each lead leads from each of them."""

    def __init__(self, method):
        self.method = method
        self.rows = tuple(Heads(method))
        self.numbers = {row: number for number, row in enumerate(self.rows)}
        self.onward = {letter: [self.numbers[compose(row, method.head(letter))] for row in self.rows]
                       for letter in method.letters}
