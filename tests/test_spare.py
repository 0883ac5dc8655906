"""Promise 46: spared letters, and the least letters."""

import itertools
import unittest

from tests.asserts import TouchCase
from tests.bandsamples import lettered_method, method_of, plain_heads
from tests.samples import FIVE, LITTLE, SEVEN, SIX, callings, rung
from truetouch.errors import BadLetter, TooMany
from truetouch.methods import Method
from truetouch.spare import least_letters, spare


def reached(method, letters):
    """For each head that these letters reach the least calling, by making callings lesser until none can be."""
    best = {tuple(range(1, method.stage + 1)): ""}
    changed = True
    while changed:
        changed = False
        for row in list(best):
            for letter in letters:
                onward, calling = rung(method, letter, row)[1][-1], best[row] + letter
                if onward not in best or (len(calling), calling) < (len(best[onward]), best[onward]):
                    best[onward] = calling
                    changed = True
    return best


METHODS = [method for method in map(lettered_method, range(80)) if method.stage < 5]


class Spare(TouchCase):

    def test_against_making_callings_lesser(self):
        told = set()
        for method in METHODS:
            for letter in method.letters:
                wanted = reached(method, method.letters.replace(letter, "")).get(rung(method, letter)[1][-1])
                self.assertEqual(spare(method, letter), wanted)
                told.add(wanted and len(wanted))
        self.assertTrue({None, "", 1, 2, 3} <= told, told)

    def test_against_all_callings(self):
        for method in METHODS[:30]:
            for letter in method.letters:
                others = method.letters.replace(letter, "")
                head = rung(method, letter)[1][-1]
                wanted = next((calling for calling in callings(others, 3) if rung(method, calling)[1][-1] == head), None)
                if wanted is not None or spare(method, letter) is None:
                    self.assertEqual(spare(method, letter), wanted)
                else:
                    self.assertGreater(len(spare(method, letter)), 3)

    def test_by_hand(self):
        self.assertEqual([spare(LITTLE, letter) for letter in "bps"], ["", None, None])
        self.assertEqual(spare(Method(4, LITTLE.plain), "p"), None)
        self.assertEqual(spare(Method(3, ((1, 2, 3),)), "p"), "")
        self.assertEqual(least_letters(LITTLE), ("ps",))

    def test_least_letters(self):
        told = set()
        for method in METHODS:
            heads = len(plain_heads(method))
            good = ["".join(part) for many in range(len(method.letters) + 1)
                    for part in itertools.combinations(method.letters, many) if len(reached(method, part)) == heads]
            wanted = tuple(letters for letters in good
                           if not any(set(part) < set(letters) for part in good))
            self.assertEqual(least_letters(method), wanted)
            told |= {(len(wanted), len(letters)) for letters in wanted}
        self.assertTrue({(1, 1), (1, 2), (2, 1), (2, 2), (3, 3)} <= told, told)

    def test_rounds_as_the_only_head(self):
        still = method_of((1, 2, 3), (1, 2, 3))
        self.assertEqual(least_letters(still), ("",))
        self.assertEqual(spare(still, "a"), "")

    def test_lengths_go_ahead_of_letters(self):
        # Each head is reached by q alone, and by a and b together.
        method = Method(3, ((1, 2, 3), (1, 2, 3)), (("a", 0, ((1,), (1, 2, 3))), ("b", 0, ((3,), (1, 2, 3))), ("q", 0, ((1,), (3,)))))
        self.assertEqual(least_letters(method), ("ab", "aq", "bq"))
        cyclic = method_of((2, 1, 3, 5, 4), (1, 2, 3, 5, 4), (2, 1, 3, 4, 5))
        self.assertEqual(least_letters(cyclic), ("ab", "ap", "bp"))
        one = method_of((2, 3, 1), (3, 1, 2), (1, 2, 3))
        self.assertEqual(least_letters(one), ("a", "p"))

    def test_number_of_heads(self):
        self.assertEqual(least_letters(SIX), ("bps",))
        self.assertIsNone(spare(SIX, "b"))
        self.raises(TooMany, ["head"], least_letters, SEVEN)
        self.raises(TooMany, ["head"], spare, SEVEN, "p")

    def test_wrong_letters(self):
        for letter in ("x", "", "pb", None, 0, ("p",), ["p"]):
            self.assertIs(self.raises(BadLetter, [letter], spare, SEVEN, letter).letter, letter)
        self.raises(BadLetter, ["x"], spare, FIVE, "x")


if __name__ == "__main__":
    unittest.main()
