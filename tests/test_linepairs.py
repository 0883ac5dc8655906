"""Promise 13: two bells with one line, and closed tables of pairs."""

import unittest

from tests.asserts import TouchCase
from tests.samples import FIVE, LITTLE, callings, listed, rung, some_method
from truetouch.errors import BadBell, Unlike
from truetouch.linepairs import LinePair, judge_lines
from truetouch.methods import Method

# Below the three bells that change as in THREE one more bell never moves.
THREE = Method(3, ((1,), (3,)), (("b", 1, ((1, 2, 3),)), ("a", 0, ((3,),))))
FOUR = Method(4, ((1, 4), (3, 4)), (("b", 1, ((1, 2, 3, 4),)), ("a", 0, ((3, 4),))))
OTHER = Method(4, ((1, 4), (3, 4)), (("b", 1, ((1, 2, 3, 4),)), ("a", 0, ((),))))


def line_of(method, calling, bell):
    rows, heads = rung(method, calling)
    return [row.index(bell) + 1 for row in rows + heads[-1:]]


def least_difference(first, bell, second, other, most):
    for calling in callings(first.letters, most):
        if line_of(first, calling, bell) != line_of(second, calling, other):
            return calling
    return None


class Lines(TouchCase):

    def test_one_line(self):
        pair = LinePair(THREE, 1, FOUR, 1)
        self.assertTrue(pair)
        self.assertIsNone(pair.calling)
        self.assertEqual(list(pair), list(pair.table))
        self.assertEqual(len(pair), 3)
        found = {}
        for calling in callings("abp", 4):
            ends = [rung(method, calling)[1][-1].index(1) + 1 for method in (THREE, FOUR)]
            found.setdefault(tuple(ends), calling)
        self.assertEqual(pair.table, tuple(found))
        self.assertIsNone(judge_lines(THREE, 1, FOUR, 1, pair.table))

    def test_least_calling(self):
        told = set()
        for bell in range(1, 5):
            for other in range(1, 5):
                for first, second in ((FOUR, OTHER), (FOUR, FOUR), (OTHER, FOUR)):
                    pair = LinePair(first, bell, second, other)
                    calling = least_difference(first, bell, second, other, 5)
                    self.assertEqual(pair.calling, calling)
                    self.assertIs(bool(pair), calling is None)
                    self.assertEqual(calling == "", bell != other)
                    if calling is not None:
                        self.assertIsNone(pair.table)
                        self.assertEqual((len(pair), list(pair)), (0, []))
                    told.add(calling)
        self.assertGreater(len(told), 3)

    def test_some_methods(self):
        for seed in range(40):
            first = some_method(seed)
            changed = list(first.plain)
            changed[-1] = tuple(range(1, first.stage + 1))
            second = Method(first.stage, tuple(changed), first.calls)
            for bell in range(1, first.stage + 1):
                pair = LinePair(first, bell, second, bell)
                self.assertEqual(pair.calling, least_difference(first, bell, second, bell, 5))

    def test_errors(self):
        for bell in (0, 4, True, None, "1"):
            self.raises(BadBell, [bell], LinePair, THREE, bell, LITTLE, 9)
            self.raises(BadBell, [bell], judge_lines, THREE, bell, LITTLE, 9, ())
        for other in (0, 5, True, None, "1"):
            self.raises(BadBell, [other], LinePair, THREE, 1, LITTLE, other)
            self.raises(BadBell, [other], judge_lines, THREE, 1, LITTLE, other, ())
        self.raises(Unlike, ["letters"], LinePair, THREE, 1, LITTLE, 1)
        self.raises(Unlike, ["letters"], judge_lines, THREE, 1, FIVE, 1, ())
        short = Method(4, ((1, 4),), (("a", 0, ((),)), ("b", 0, ((),))))
        self.raises(Unlike, ["size"], LinePair, THREE, 1, short, 2)
        self.raises(Unlike, ["size"], judge_lines, THREE, 1, short, 2, ())


class Tables(TouchCase):

    def judged(self, table):
        told = judge_lines(THREE, 1, FOUR, 1, table)
        self.assertEqual(judge_lines(THREE, 1, FOUR, 1, listed(table)), told)
        return told

    def test_right(self):
        table = LinePair(THREE, 1, FOUR, 1).table
        self.assertEqual(sorted(table), [(1, 1), (2, 2), (3, 3)])
        for told in (table, table[::-1], table + table, table[:1] + table):
            self.assertIsNone(self.judged(told))

    def test_wrong(self):
        table = ((1, 1), (2, 2), (3, 3))
        for told, wanted in [((), -1), (table[1:], -1), (((1, True),) + table[1:], -1), (((1, 1, 1),) + table[1:], -1),
                             (table + ((1, 2),), 3), (((2, 1),) + table, 0), (table + ((1, 5),), 3),
                             (table + ((3, 4),), 3), (table + (None,), 3), (("11",) + table, 0),
                             (table + ((4, 4),), 3), (table + ((True, 1),), 3), (table + ((1,),), 3), (table + ((0, 0),), 3), (((0, 1),) + table, 0)]:
            self.assertEqual(self.judged(told), wanted, told)
        for left_out in (1, 2):
            rest = table[:left_out] + table[left_out + 1:]
            gone = table[left_out][0]
            wanted = next(at for at, (place, _) in enumerate(rest) for method in (THREE,)
                          if any(rung(method, letter)[1][-1].index(place) + 1 == gone for letter in "abp"))
            self.assertEqual(self.judged(rest), wanted)

    def test_places_that_are_not_equal(self):
        self.assertEqual(judge_lines(THREE, 1, FOUR, 2, ((1, 2),)), 0)
        self.assertEqual(judge_lines(THREE, 1, FOUR, 2, ((1, 1), (1, 2))), 0)
        self.assertEqual(judge_lines(THREE, 1, FOUR, 2, ((1, 1), (2, 2), (3, 3), (1, 2))), 3)

    def test_works_that_differ(self):
        self.assertEqual(judge_lines(FOUR, 3, OTHER, 3, ((3, 3),)), 0)
        # The fourth bell never moves in the first method, and does so in the other one under the call a alone.
        table = tuple((place, place) for place in (4, 3, 2, 1))
        self.assertEqual(judge_lines(FOUR, 4, OTHER, 4, table), 0)
        self.assertIsNone(judge_lines(FOUR, 4, FOUR, 4, ((4, 4),)))


if __name__ == "__main__":
    unittest.main()
