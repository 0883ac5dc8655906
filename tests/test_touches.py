"""Promise 5: callings, touches, spots, truth, and the heads of a method."""

import unittest

from tests.asserts import TouchCase
from tests.samples import LITTLE, THREE, callings, repeat_of, rung, shuffled_rows, some_method
from truetouch.errors import BadCalling, BadRow, BadTimes, NoSpot, TooMany, Unreached
from truetouch.heads import Heads
from truetouch.methods import Method
from truetouch.rows import moved, renamed, step
from truetouch.touches import Touch

STILL = Method(3, ((1, 2, 3),), (("b", 0, ((1,),)),))
# The plain and the called lead of this one reach all rows of its stage.
WIDE = Method(7, ((7,), (1,), (7,), (1,), (7,), (1,)), (("b", 5, ((1, 2, 3),)), ("s", 4, ((5, 6, 7), (1,)))))


class Touches(TouchCase):

    def test_rows_heads_and_truth(self):
        for seed in range(25):
            method = some_method(seed)
            for calling in callings(method.letters, 3):
                touch = Touch(method, calling)
                rows, heads = rung(method, calling)
                self.assertEqual(list(touch), rows)
                self.assertEqual(len(touch), len(rows))
                self.assertEqual([touch[spot] for spot in range(len(touch))], rows)
                self.assertEqual(touch.heads, tuple(heads))
                self.assertEqual(touch.end, heads[-1])
                self.assertIs(touch.is_round, calling != "" and heads[-1] == heads[0])
                self.assertEqual(touch.spots, repeat_of(rows))
                self.assertIs(touch.is_true, repeat_of(rows) is None)

    def test_start_renames_all_rows(self):
        for calling in ("", "p", "psb", "bsbs", "ppppp"):
            plain = Touch(LITTLE, calling)
            self.assertEqual(plain.start, (1, 2, 3, 4))
            for start in shuffled_rows(4)[::5]:
                touch = Touch(LITTLE, calling, list(start))
                self.assertEqual(touch.start, start)
                self.assertEqual(list(touch), [renamed(row, start) for row in plain])
                self.assertEqual((touch.is_round, touch.is_true, touch.spots),
                                 (plain.is_round, plain.is_true, plain.spots))

    def test_empty_calling(self):
        touch = Touch(LITTLE, "")
        self.assertEqual((len(touch), list(touch), touch.heads), (0, [], ((1, 2, 3, 4),)))
        self.assertIs(touch.is_round, False)
        self.assertIs(touch.is_true, True)
        self.assertIsNone(touch.spots)

    def test_spots(self):
        self.assertEqual(Touch(LITTLE, "ppp").spots, None)
        self.assertEqual(Touch(LITTLE, "pppp").spots, (0, 24))
        self.assertEqual(Touch(STILL, "bpb").spots, (1, 2))

    def test_no_spot(self):
        touch = Touch(LITTLE, "pb")
        self.assertEqual(touch[15], list(touch)[15])
        for spot in (16, -1, True, None, "0", 1.0, slice(0, 2), [0]):
            self.raises(NoSpot, [spot], lambda: touch[spot])
        self.raises(NoSpot, [0], lambda: Touch(LITTLE, "")[0])

    def test_bad_callings(self):
        self.assertEqual(len(Touch(LITTLE, "p" * 400)), 3200)
        self.raises(BadCalling, [-1], Touch, LITTLE, "p" * 401)
        self.raises(BadCalling, [-1], Touch, LITTLE, "x" * 401)
        for calling in (None, 3, ("p",), ["p", "b"]):
            self.raises(BadCalling, [-1], Touch, LITTLE, calling, 3)
        self.raises(BadCalling, [2], Touch, LITTLE, "pbapa", (1, 2))
        self.raises(BadCalling, [0], Touch, LITTLE, " ")
        for start in ((1, 2, 3), "1234", (True, 2, 3, 4), 0):
            self.raises(BadRow, [start], Touch, LITTLE, "p", start)

    def test_equal(self):
        self.assertTrue(Touch(LITTLE, "p") == Touch(LITTLE, "p", [1, 2, 3, 4]))
        self.assertFalse(Touch(LITTLE, "p") == Touch(LITTLE, "p", (2, 1, 3, 4)))
        self.assertFalse(Touch(LITTLE, "p") == Touch(LITTLE, "b"))
        self.assertFalse(Touch(STILL, "p") == Touch(THREE, "p"))
        self.assertIs(Touch(LITTLE, "p") == "p", False)

    def test_further_leads(self):
        start = (2, 1, 4, 3)
        self.assertEqual(Touch(LITTLE, "pb", start) + "sp", Touch(LITTLE, "pbsp", start))
        self.assertEqual(Touch(LITTLE, "pb") + "", Touch(LITTLE, "pb"))
        long = Touch(LITTLE, "p" * 399)
        self.assertEqual((long + "b").calling, "p" * 399 + "b")
        self.raises(BadCalling, [-1], lambda: long + "bx")
        self.raises(BadCalling, [0], lambda: long + "x")
        self.raises(BadCalling, [1], lambda: Touch(LITTLE, "pb") + "pxp")
        for thing in (None, 1, ["p"], Touch(LITTLE, "p")):
            self.raises(BadCalling, [-1], lambda: Touch(LITTLE, "pb") + thing)

    def test_times(self):
        start = (2, 1, 4, 3)
        self.assertEqual(Touch(LITTLE, "pb", start) * 3, Touch(LITTLE, "pbpbpb", start))
        self.assertEqual(Touch(LITTLE, "pb") * 0, Touch(LITTLE, ""))
        self.assertEqual((Touch(LITTLE, "pb") * 200).calling, "pb" * 200)
        self.raises(BadCalling, [-1], lambda: Touch(LITTLE, "pb") * 201)
        self.raises(BadCalling, [-1], lambda: Touch(LITTLE, "p") * 10 ** 39)
        self.assertEqual(Touch(LITTLE, "") * 10 ** 39, Touch(LITTLE, ""))
        for times in (-1, True, None, "2", 1.0, -10 ** 39):
            self.raises(BadTimes, [times], lambda: Touch(LITTLE, "pb") * times)


class AllHeads(TouchCase):

    def test_heads_in_the_order_of_their_least_callings(self):
        for seed in range(30):
            method = some_method(seed)
            if method.stage == 5:
                continue
            heads = Heads(method)
            found = {}
            for calling in callings(method.letters, 5):
                found.setdefault(rung(method, calling)[1][-1], calling)
            told = {row: heads[row] for row in heads}
            self.assertEqual([(row, told[row]) for row in told if len(told[row]) <= 5], list(found.items()))
            for row in heads:
                self.assertEqual(rung(method, heads[row])[1][-1], row)
            longest = max(len(calling) for calling in told.values())
            self.assertEqual(heads.farthest, tuple(row for row in told if len(told[row]) == longest))

    def test_closed(self):
        heads = Heads(LITTLE)
        self.assertIs(heads.method, LITTLE)
        self.assertEqual(len(heads), len(list(heads)))
        self.assertEqual(list(heads)[0], (1, 2, 3, 4))
        self.assertEqual(heads[[1, 2, 3, 4]], "")
        for row in heads:
            for letter in LITTLE:
                self.assertIn(moved(row, LITTLE.head(letter)), heads)
            for other in heads:
                self.assertIn(step(row, other), heads)

    def test_only_rounds(self):
        heads = Heads(Method(8, ((1, 2, 3, 4, 5, 6, 7, 8),)))
        self.assertEqual(list(heads), [(1, 2, 3, 4, 5, 6, 7, 8)])
        self.assertEqual(heads.farthest, ((1, 2, 3, 4, 5, 6, 7, 8),))

    def test_no_head(self):
        heads = Heads(Method(4, ((1, 4),)))
        self.assertEqual(list(heads), [(1, 2, 3, 4), (1, 3, 2, 4)])
        self.assertIs([1, 3, 2, 4] in heads, True)
        for row in ((2, 1, 3, 4), (1, 2, 3), None, "1234", (True, 2, 3, 4), [[1], 2, 3, 4], {}):
            self.assertIs(row in heads, False)
            self.assertIs(self.raises(Unreached, [row], lambda: heads[row]).row, row)

    def test_too_many(self):
        # 6 bells have 720 rows; 7 bells of which one never moves as well.
        six = Method(6, ((1, 2),), (("b", 0, ((1, 6),)), ("c", 0, ((),)), ("d", 0, ((1, 2, 3, 4),))))
        self.assertEqual(len(Heads(six)), 720)
        self.raises(TooMany, ["head"], Heads, WIDE)
        menu = Method(8, ((1, 8),), (("b", 0, ((),)), ("c", 0, ((1, 2),))))
        self.raises(TooMany, ["head"], Heads, menu)


if __name__ == "__main__":
    unittest.main()
