"""Promises 10 and 11: clashes and falseness, the truth of a touch, and parts."""

import random
import unittest

from tests.asserts import TouchCase
from tests.samples import LITTLE, callings, repeat_of, rung, shuffled_rows, some_method
from truetouch.errors import BadCalling, BadLetter, BadTimes
from truetouch.falseness import Falseness
from truetouch.methods import Method
from truetouch.rows import rounds, step
from truetouch.truths import Parts, Truth

# The plain lead of this one turns the bells of 3 and those of 5, and has the order 15.
FIFTEEN = Method(8, ((1, 4, 5, 8), (3, 4, 7, 8), (1, 2, 3, 8)), (("b", 0, ((1, 2, 3, 4, 5, 6, 7, 8),)),))
SELF = Method(3, ((1,), (1,), (3,)), (("b", 0, ((1,), (3,))),))


class Clashes(TouchCase):

    def test_falseness_by_ringing(self):
        for seed in range(20):
            method = some_method(seed)
            if method.stage == 5:
                continue
            falseness = Falseness(method)
            self.assertIs(falseness.method, method)
            for first in method.letters:
                rows = rung(method, first)[0]
                self.assertIs(falseness.own(first), repeat_of(rows) is not None)
                for second in method.letters:
                    steps = tuple(move for move in shuffled_rows(method.stage)
                                  if set(rows) & set(rung(method, second, move)[0]))
                    self.assertEqual(falseness[first, second], steps)
                    self.assertEqual(falseness[[first, second]], steps)
                    self.assertIn(rounds(method.stage), steps)
                    for move in shuffled_rows(method.stage):
                        self.assertIs(falseness.clash(first, second, list(move)), move in steps)

    def test_pairs(self):
        pairs = [(first, second) for first in "bps" for second in "bps"]
        self.assertEqual(list(Falseness(LITTLE)), pairs)

    def test_own(self):
        falseness = Falseness(SELF)
        self.assertIs(falseness.own("p"), True)
        self.assertIs(falseness.own("b"), False)

    def test_bad_letters(self):
        falseness = Falseness(LITTLE)
        for letter in ("a", "", "bp", None, 3, ("b",)):
            self.raises(BadLetter, [letter], lambda: falseness[letter, "?"])
            self.raises(BadLetter, [letter], lambda: falseness["b", letter])
            self.raises(BadLetter, [letter], falseness.clash, letter, "?", (1, 2, 3, 4))
            self.raises(BadLetter, [letter], falseness.clash, "b", letter, (1, 2, 3, 4))
            self.raises(BadLetter, [letter], falseness.own, letter)
        for thing in ("b", "bp", ("b",), ["b", "p", "s"], None):
            self.raises(BadLetter, [thing], lambda: falseness[thing])


class Truths(TouchCase):

    def test_truth_against_the_rows_rung(self):
        for seed in range(20):
            method = some_method(seed)
            falseness = Falseness(method)
            for calling in callings(method.letters, 4):
                truth = Truth(method, calling)
                rows, heads = rung(method, calling)
                self.assertIs(bool(truth), repeat_of(rows) is None)
                self.assertEqual(truth.spots, repeat_of(rows))
                self.assertIs(truth.is_round, calling != "" and heads[-1] == heads[0])
                self.assertEqual((truth.method, truth.calling), (method, calling))
                clash = any(falseness.own(letter) for letter in calling) or any(
                    falseness.clash(calling[i], calling[j], step(heads[i], heads[j]))
                    for j in range(len(calling)) for i in range(j))
                self.assertIs(bool(truth), not clash)

    def test_errors(self):
        self.assertTrue(Truth(LITTLE, ""))
        self.assertFalse(Truth(LITTLE, "p" * 400))
        for calling in ("p" * 401, None, ["p"], 3, "x" * 401):
            self.raises(BadCalling, [-1], Truth, LITTLE, calling)
            self.raises(BadCalling, [-1], Parts, LITTLE, calling)
        self.raises(BadCalling, [2], Truth, LITTLE, "ppx?")
        self.raises(BadCalling, [2], Parts, LITTLE, "ppx?")
        self.raises(BadCalling, [-1], Parts, LITTLE, "")


class AllParts(TouchCase):

    def test_order_and_reach_by_ringing(self):
        for seed in range(20):
            method = some_method(seed)
            for part in callings(method.letters, 3):
                if part == "":
                    continue
                parts = Parts(method, part)
                ends = [rung(method, part * times)[1][-1] for times in range(1, 9)]
                order = next(times for times, end in enumerate(ends, 1) if end == rounds(method.stage))
                reach = max(times for times in range(0, order + 1) if not repeat_of(rung(method, part * times)[0]))
                self.assertEqual((parts.method, parts.part, parts.order, parts.reach), (method, part, order, reach))
                for times in range(1, 9):
                    self.assertIs(parts.comes_round(times), ends[times - 1] == rounds(method.stage))
                    self.assertIs(parts.rings_true(times), repeat_of(rung(method, part * times)[0]) is None)

    def test_great_numbers(self):
        parts = Parts(LITTLE, "p")
        self.assertEqual((parts.order, parts.reach), (3, 3))
        self.assertIs(parts.comes_round(3 * 10 ** 38), True)
        self.assertIs(parts.comes_round(10 ** 39), False)
        self.assertIs(parts.rings_true(10 ** 39), False)
        for times in (0, -1, True, None, "1", 1.0):
            self.raises(BadTimes, [times], parts.comes_round, times)
            self.raises(BadTimes, [times], parts.rings_true, times)

    def test_long_parts(self):
        parts = Parts(FIFTEEN, "p")
        self.assertEqual(parts.order, len(set(rung(FIFTEEN, "p" * 30)[1])))
        chance = random.Random(5)
        part = "".join(chance.choice("bp") for _ in range(400))
        self.assertEqual(Parts(FIFTEEN, part).reach, 0)

    def test_part_that_is_not_true(self):
        parts = Parts(SELF, "p")
        self.assertEqual(parts.reach, 0)
        self.assertIs(parts.rings_true(1), False)
        self.assertEqual(Parts(Method(3, ((1, 2, 3),)), "p").reach, 1)


if __name__ == "__main__":
    unittest.main()
