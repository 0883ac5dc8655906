"""Promise 22: conductors who bring the bells home from all heads."""

import random
import unittest

from tests.asserts import TouchCase
from tests.booksamples import spoilt_tables
from tests.samples import SEVEN, SIX, listed, some_method
from tests.test_conductors import going, some_conductor
from truetouch.allstarts import AllStarts, judge_starts
from truetouch.conductors import Conductor
from truetouch.errors import TooMany
from truetouch.heads import Heads
from truetouch.methods import Method


def plain_verdict(conductor):
    """The table, or the breach."""
    rounds = tuple(range(1, conductor.method.stage + 1))
    table = {}
    for head in Heads(conductor.method):
        letters, pairs = going(conductor, head, 4 * 120 + 2)
        home = next((number for number, (_, row) in enumerate(pairs) if row == rounds), None)
        if home is None:
            again = next(number for number, pair in enumerate(pairs) if pair in pairs[:number])
            first = pairs.index(pairs[again])
            return None, (head, letters[:first], letters[first:again])
        for number in range(home + 1):
            table.setdefault(pairs[number], home - number)
    return tuple((memory, row, rank) for (memory, row), rank in table.items()), None


def is_form(thing, conductor):
    return (isinstance(thing, (tuple, list)) and len(thing) == 3 and type(thing[0]) is int
            and 0 <= thing[0] < len(conductor.table) and isinstance(thing[1], (tuple, list))
            and all(type(bell) is int for bell in thing[1])
            and sorted(thing[1]) == list(range(1, conductor.method.stage + 1))
            and type(thing[2]) is int and thing[2] >= 0)


def plain_judge(conductor, table):
    good = [(row[0], tuple(row[1]), row[2]) if is_form(row, conductor) else None for row in table]

    def rank(pair):
        return next((told[2] for told in good if told and told[:2] == pair), None)

    if any(rank((0, head)) is None for head in Heads(conductor.method)):
        return -1
    for number, told in enumerate(good):
        if told is None:
            return number
        if told[1] != tuple(range(1, conductor.method.stage + 1)):
            letter, memory = conductor.table[told[0]][told[1].index(conductor.bell)]
            _, pairs = going(Conductor(conductor.method, conductor.bell, (((letter, 0),) * conductor.method.stage,)),
                             told[1], 1)
            onward = rank((memory, pairs[1][1]))
            if onward is None or onward >= told[2]:
                return number
    return None


class Verdicts(TouchCase):

    def test_against_going_on(self):
        told = []
        for seed in range(250):
            conductor = some_conductor(seed)
            if len(Heads(conductor.method)) > 24:
                continue
            verdict = AllStarts(conductor)
            table, breach = plain_verdict(conductor)
            self.assertEqual((verdict.table, verdict.breach), (table, breach))
            self.assertIs(bool(verdict), breach is None)
            self.assertEqual((len(verdict), list(verdict)), (len(table or ()), list(table or ())))
            if table:
                self.assertIsNone(judge_starts(conductor, table))
                self.assertIsNone(judge_starts(conductor, listed(table)))
            told.append(len(table) if table else "breach")
        self.assertGreater(told.count("breach"), 20)
        self.assertGreater(len(set(told)), 8)

    def test_rounds_needs_no_lead(self):
        # A method whose plain lead changes nothing has one head.
        still = Method(3, ((1, 2, 3),))
        verdict = AllStarts(Conductor(still, 1, ((("p", 0),) * 3,)))
        self.assertEqual(verdict.table, ((0, (1, 2, 3), 0),))

    def test_the_start_row_can_come_again(self):
        # From some head the same head comes again with another memory, and then rounds.
        told = 0
        for seed in range(250):
            conductor = some_conductor(seed)
            if len(Heads(conductor.method)) <= 24 and AllStarts(conductor):
                for head in Heads(conductor.method):
                    outcome = conductor.outcome(head)
                    rounds = tuple(range(1, conductor.method.stage + 1))
                    _, pairs = going(conductor, head, len(outcome[1]))
                    told += head != rounds and rounds not in [row for _, row in pairs]
        self.assertGreater(told, 0)

    def test_number_of_heads(self):
        self.assertEqual(len(Heads(SIX)), 720)
        verdict = AllStarts(Conductor(SIX, 2, ((("p", 0),) * 6,)))
        self.assertFalse(verdict)
        # Plain leads lead from most heads back to them, and never to rounds.
        lost = next(head for head in Heads(SIX) if head not in ((1, 2, 3, 4, 5, 6), (1, 2, 4, 3, 6, 5)))
        self.assertEqual(verdict.breach, (lost, "", "pp"))
        conductor = Conductor(SEVEN, 2, ((("p", 0),) * 7,))
        self.raises(TooMany, ["head"], AllStarts, conductor)
        self.raises(TooMany, ["head"], judge_starts, conductor, ())

    def test_by_turns(self):
        seeds = [seed for seed in range(60) if len(Heads(some_method(seed))) <= 24]
        verdicts = [AllStarts(some_conductor(seed)) for seed in seeds]
        for seed, verdict in zip(seeds, verdicts):
            alone = AllStarts(some_conductor(seed))
            self.assertEqual((verdict.table, verdict.breach), (alone.table, alone.breach))


class Tables(TouchCase):

    def test_spoilt_tables(self):
        results = set()
        chance = random.Random(10)
        for seed in range(250):
            conductor = some_conductor(seed)
            heads = list(Heads(conductor.method))
            if len(heads) > 24:
                continue
            table = plain_verdict(conductor)[0] or tuple((0, head, 30 - at) for at, head in enumerate(heads))
            rounds = heads[0]
            others = [(0, heads[-1], 7), (1, heads[-1], 3), (3, heads[-1], 3), (0, rounds, 5), (0, rounds[::-1], 1), None,
                      "row", (), (0, rounds), (0, rounds, True), (0, rounds, -1), (4, rounds, 0), (-1, rounds, 0),
                      (True, rounds, 0), (0, rounds[1:], 0), (0, rounds, None), (0, rounds, 0, 0), (0, None, 0)]
            others += [(memory, row, rank + more) for memory, row, rank in table for more in (-1, 1)]
            for told in spoilt_tables(table, chance, others):
                wanted = plain_judge(conductor, told)
                self.assertEqual(judge_starts(conductor, tuple(told)), wanted)
                self.assertEqual(judge_starts(conductor, listed(tuple(told))), wanted)
                results.add(wanted)
        self.assertGreater(len(results), 5)
        self.assertIn(None, results)

    def test_hand_made(self):
        still = Method(3, ((1, 2, 3),), (("b", 0, ((3,),)),))
        conductor = Conductor(still, 1, ((("b", 0), ("b", 1), ("p", 0)), (("b", 1),) * 3))
        rounds, other = (1, 2, 3), (2, 1, 3)
        self.assertEqual(AllStarts(conductor).table, ((0, rounds, 0), (0, other, 1), (1, rounds, 0)))
        for table, wanted in [(((0, rounds, 0), (0, other, 1), (1, rounds, 0)), None),
                              (((0, rounds, 0), (0, other, 1)), 1), (((0, other, 1), (1, rounds, 0)), -1),
                              (((0, rounds, 9), (0, other, 1), (1, rounds, 0)), None),
                              (((0, rounds, 9), (0, other, 1), (1, rounds, 1)), 1),
                              (((0, rounds, 0), (0, other, 1), (1, rounds, 0), (1, rounds, 5)), None),
                              (((0, rounds, 0), (0, other, 1), (1, rounds, 5), (1, rounds, 0)), 1),
                              (((0, rounds, 0), (0, other, 1), (1, rounds, 0), (0, other, 0)), 3),
                              (((0, rounds, 0), (0, other, 1), (1, rounds, 0), (1, (3, 2, 1), 0)), 3),
                              (((0, rounds, 0), (0, other, 1), (1, rounds, 0), (2, rounds, 0)), 3),
                              (((0, rounds, 0), (0, other, 1), (1, rounds, False)), 1)]:
            self.assertEqual(judge_starts(conductor, table), wanted, table)
            self.assertEqual(judge_starts(conductor, listed(table)), wanted, table)


if __name__ == "__main__":
    unittest.main()
