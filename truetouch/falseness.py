"""Which leads of a method clash, because they ring a row in common."""

from truetouch.callings import first_repeat
from truetouch.errors import BadLetter
from truetouch.forms import is_tuple_of
from truetouch.methods import judge_letter
from truetouch.moves import compose, inverse


class Falseness:
    """The falseness of each pair of letters of a method: the steps at which their leads clash."""

    def __init__(self, method):
        self.method = method
        self._steps = {(first, second): steps_of_clash(method.body(first), method.body(second))
                       for first in method for second in method}
        self._clashing = {pair: {move: True for move in steps} for pair, steps in self._steps.items()}

    def clash(self, first, second, move):
        """Whether the leads of the letters clash at this step."""
        for letter in (first, second):
            judge_letter(self.method, letter)
        return tuple(move) in self._clashing[first, second]

    def own(self, letter):
        """Whether the lead of the letter rings a row twice."""
        judge_letter(self.method, letter)
        return first_repeat(self.method.body(letter)) is not None

    def __iter__(self):
        return iter(self._steps)

    def __getitem__(self, at):
        if not is_tuple_of(at, 2, 2):
            raise BadLetter(at)
        for letter in at:
            judge_letter(self.method, letter)
        return self._steps[at[0], at[1]]


def steps_of_clash(first, second):
    """The steps at which a lead with the first body and one with the second ring a row in common."""
    undone = [inverse(row) for row in second]
    return tuple(sorted({compose(row, move) for row in first for move in undone}))
