"""Hearings: what can have been rung when the heads were heard in part."""

from truetouch.callings import judge_calling
from truetouch.errors import BadHeard, TooLong, TooMany
from truetouch.exchanges import is_exchange
from truetouch.explanations import Explanations
from truetouch.forms import as_tuples, is_tuple_of
from truetouch.heads import Heads
from truetouch.moves import compose, exchange, rounds_of
from truetouch.patterns import fits_pattern, is_pattern

MOST_LEADS = 24
MOST_BELLS = 6


class Hearing:
    """What was called and what was heard, with the explanations that have the fewest slips."""

    def __init__(self, method, calling, heard, *, swaps=False):
        judge_hearing(method, calling, heard, swaps)
        self.method = method
        self.calling = calling
        self.heard = as_tuples(heard)
        self.swaps = swaps
        found = Explanations(method, calling, self.heard, swaps)
        self.fewest, self.number = found.ahead[0].get(rounds_of(method.stage), (None, 0))
        self.first = None if self.fewest is None else found.first_told()
        self.sure = tuple([None for _ in calling]) if self.fewest is None else found.sure_told()

    def __contains__(self, x):
        if not is_explanation(x, self.method, len(self.calling), self.swaps):
            return False
        row = rounds_of(self.method.stage)
        for (letter, swap), pattern in zip(x, self.heard):
            rung = exchange(row, swap[0], swap[1]) if len(swap) > 0 else row
            if not fits_pattern(rung, pattern):
                return False
            row = compose(rung, self.method.head(letter))
        return fits_pattern(row, self.heard[-1])

    def __len__(self):
        return len(self.calling)


def is_explanation(thing, method, many, swaps):
    """Whether it is an explanation for so many leads, whether or not it fits."""
    if not is_tuple_of(thing, many, many) or not all([is_tuple_of(pair, 2, 2) for pair in thing]):
        return False
    return all([letter in method and is_swap(swap, method, swaps) for letter, swap in thing])


def is_swap(thing, method, swaps):
    """Whether it tells that no bells exchange their places, or, if swaps are let, which ones do."""
    return is_tuple_of(thing, 0, 0) or (swaps and is_exchange(thing, method.stage))


def judge_hearing(method, calling, heard, swaps):
    """Raises the error that is due if these are no calling and no patterns for it, or there is too much to look at."""
    judge_calling(calling, method)
    if len(calling) > MOST_LEADS:
        raise TooLong(len(calling))
    if not is_tuple_of(heard, len(calling) + 1, len(calling) + 1):
        raise BadHeard(-1)
    for number, pattern in enumerate(heard):
        if not is_pattern(pattern, method.stage):
            raise BadHeard(number)
    if swaps and method.stage > MOST_BELLS:
        raise TooMany("bell")
    if not swaps:
        # Without swaps only heads are rung, and these refuse to be too many.
        Heads(method)
