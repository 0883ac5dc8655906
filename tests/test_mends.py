"""Promise 34: mends of faults, and the worst fault of a kind."""

import unittest

from tests.asserts import TouchCase
from tests.bandsamples import lettered_method, plain_heads
from tests.samples import LITTLE, SEVEN, SIX, callings, rung, shuffled_rows, some_method
from truetouch.errors import BadKind, BadRow, NoMend, TooMany
from truetouch.faults import faults_of
from truetouch.heads import Heads
from truetouch.mends import Mends
from truetouch.methods import Method


def moved(row, move):
    return tuple(row[place - 1] for place in move)


def plain_mends(method, most):
    """The mends of at most so many letters, by trying all callings."""
    rounds = tuple(range(1, method.stage + 1))
    found = {}
    for calling in callings(method.letters, most):
        move = rung(method, calling)[1][-1]
        for fault in shuffled_rows(method.stage):
            if fault not in found and moved(fault, move) == rounds:
                found[fault] = calling
    return found


class MendsOfFaults(TouchCase):

    def test_against_all_callings(self):
        lengths = set()
        for seed in range(60):
            method = some_method(seed)
            if method.stage > 4:
                continue
            mends = Mends(method)
            most = {1: 8, 2: 6, 3: 4, 4: 3}[len(method)]
            found = plain_mends(method, most)
            heads = plain_heads(method)
            for fault in shuffled_rows(method.stage):
                self.assertIs(fault in mends, fault in heads)
                if fault in heads:
                    lengths.add(len(mends[fault]))
                    if len(mends[fault]) <= most or fault in found:
                        self.assertEqual(mends[fault], found[fault])
                    else:
                        self.assertEqual(rung(method, mends[fault], fault)[1][-1], tuple(range(1, method.stage + 1)))
                else:
                    self.assertNotIn(fault, found)
                    self.raises(NoMend, [fault], lambda: mends[fault])
        self.assertGreater(len(lengths), 5)

    def test_order(self):
        for seed in range(20):
            method = some_method(seed)
            mends = Mends(method)
            self.assertEqual(list(mends), list(Heads(method)))
            self.assertEqual(len(mends), len(Heads(method)))
            self.assertEqual(mends[list(mends)[0]], "")
        self.assertIs(mends.method, method)

    def test_to_a_goal(self):
        mends = Mends(LITTLE)
        for row in shuffled_rows(4):
            for goal in shuffled_rows(4)[::5]:
                fault = tuple(goal.index(bell) + 1 for bell in row)
                if fault in mends:
                    self.assertEqual(mends(row, goal), mends[fault])
                    # Rung from the row, the mend brings the bells to the goal.
                    self.assertEqual(rung(LITTLE, mends(row, goal), row)[1][-1], goal)
                    self.assertEqual(mends(list(row), list(goal)), mends[fault])
                else:
                    self.raises(NoMend, [fault], mends, row, goal)

    def test_worst(self):
        told = set()
        for seed in range(120):
            method = lettered_method(seed) if seed % 2 else some_method(seed)
            mends = Mends(method)
            heads = plain_heads(method)
            for kind in ("mistaken", "crossed", "swapped"):
                faults = faults_of(method, kind)
                lost = [fault for fault in faults if fault not in heads]
                if lost:
                    wanted = ("none", lost[0])
                elif not faults:
                    wanted = ("mends", 0, None)
                else:
                    most = max(len(mends[fault]) for fault in faults)
                    wanted = ("mends", most, next(fault for fault in faults if len(mends[fault]) == most))
                self.assertEqual(mends.worst(kind), wanted)
                told.add((kind, wanted[0], wanted[0] == "mends" and wanted[1] > 0))
        self.assertEqual(len(told), 6)

    def test_no_faults_at_all(self):
        still = Method(3, ((1, 2, 3),))
        self.assertEqual(Mends(still).worst("mistaken"), ("mends", 0, None))
        self.assertEqual(Mends(still).worst("swapped"), ("none", (1, 3, 2)))

    def test_number_of_heads(self):
        self.assertEqual(len(Mends(SIX)), 720)
        self.assertEqual(Mends(SIX).worst("swapped")[0], "mends")
        self.raises(TooMany, ["head"], Mends, SEVEN)

    def test_wrong_things(self):
        mends = Mends(LITTLE)
        for thing in (None, (), (1, 2, 3), (1, 2, 3, 4, 5), (1, 1, 2, 3), (True, 2, 3, 4), "1234", 4, (2, 1, 3, 4), [2, 1, 3, 4],
                      (1, 2, 3, None), {}):
            self.assertIs(thing in mends, False)
            self.assertIs(self.raises(NoMend, [thing], lambda: mends[thing]).row, thing)
        good = (1, 2, 3, 4)
        for thing in (None, (1, 2, 3), (1, 1, 2, 3), (True, 2, 3, 4), "1234", (1, 2, 3, 4, 5)):
            self.assertIs(self.raises(BadRow, [thing], mends, thing, None).row, thing)
            self.assertIs(self.raises(BadRow, [thing], mends, good, thing).row, thing)
        self.assertEqual(mends[[1, 2, 4, 3]], mends[1, 2, 4, 3])
        self.assertIs([1, 2, 4, 3] in mends, True)
        for kind in (None, "fault", ["swapped"]):
            self.raises(BadKind, [kind], mends.worst, kind)


if __name__ == "__main__":
    unittest.main()
