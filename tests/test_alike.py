"""Promise 44: methods that come round alike, and the judge of pairs of heads."""

import random
import unittest

from tests.asserts import TouchCase
from tests.bandsamples import lettered_method, method_of
from tests.booksamples import spoilt_tables
from tests.samples import FIVE, LITTLE, SEVEN, callings, listed, rung
from truetouch.alike import RoundAlike, judge_round_pairs
from truetouch.errors import TooMany, Unlike
from truetouch.methods import Method
from truetouch.mirrors import mirrored_method

# Two groups of moves of 20 and of 40; each letter moves the bells in one of the two methods alone.
TWENTY = ((2, 3, 4, 5, 1), (1, 3, 5, 2, 4))
FORTY = ((2, 3, 4, 5, 1, 6, 7), (1, 3, 5, 2, 4, 6, 7), (1, 2, 3, 4, 5, 7, 6))
STILL_FIVE, STILL_SEVEN = (1, 2, 3, 4, 5), (1, 2, 3, 4, 5, 6, 7)
# So these have 800 pairs, and the other two 1,600.
EDGE = (method_of(*TWENTY, *(STILL_FIVE,) * 3), method_of(*(STILL_SEVEN,) * 2, *FORTY))
BEYOND = (method_of(*FORTY, *(STILL_SEVEN,) * 3), method_of(*(STILL_SEVEN,) * 3, *FORTY))


def rounds(method):
    return tuple(range(1, method.stage + 1))


def pairs_of_methods(many):
    chance = random.Random(1)
    for seed in range(many):
        first = lettered_method(seed, 2)
        moves = [rung(first, letter)[1][-1] for letter in first.letters]
        if first.stage == 5:
            continue
        yield first, first
        # The same head moves by other changes, and such that are seen from other places.
        if first.letters == "abcd"[:len(moves) - 1] + "p":
            yield first, method_of(moves[-1], *moves[:-1])
        yield first, mirrored_method(first)
        other = Method(3, ((1,),), tuple((letter, 0, (chance.choice(((1,), (3,), (1, 2, 3))),))
                                                         for letter in first.letters if letter != "p"))
        yield first, other
        yield other, first
        for _ in range(2):
            moves = [tuple(chance.sample(rounds(first), first.stage)) for _ in range(2)]
            yield method_of(*moves), method_of(*moves[:1], chance.choice(moves))


def plain_pairs(first, second):
    """For each pair of heads the least calling, by making callings lesser until none can be."""
    best = {(rounds(first), rounds(second)): ""}
    changed = True
    while changed:
        changed = False
        for pair in list(best):
            for letter in first.letters:
                onward = tuple(rung(method, letter, row)[1][-1] for method, row in zip((first, second), pair))
                calling = best[pair] + letter
                if onward not in best or (len(calling), calling) < (len(best[onward]), best[onward]):
                    best[onward] = calling
                    changed = True
    return dict(sorted(best.items(), key=lambda item: (len(item[1]), item[1])))


def is_row(thing, method):
    return (isinstance(thing, (tuple, list)) and all(type(bell) is int for bell in thing)
            and sorted(thing) == list(rounds(method)))


def plain_judge(first, second, table):
    good = [(tuple(row[0]), tuple(row[1])) if isinstance(row, (tuple, list)) and len(row) == 2 and is_row(row[0], first)
            and is_row(row[1], second) else None for row in table]
    if (rounds(first), rounds(second)) not in good:
        return -1
    for number, pair in enumerate(good):
        if pair is None or (pair[0] == rounds(first)) != (pair[1] == rounds(second)):
            return number
        for letter in first.letters:
            if tuple(rung(method, letter, row)[1][-1] for method, row in zip((first, second), pair)) not in good:
                return number
    return None


class Verdicts(TouchCase):

    def test_against_plain_pairs(self):
        comers, sizes = set(), set()
        for first, second in pairs_of_methods(60):
            best = plain_pairs(first, second)
            told = RoundAlike(first, second)
            apart = [pair for pair in best if (pair[0] == rounds(first)) != (pair[1] == rounds(second))]
            if apart:
                self.assertEqual((told.calling, told.comer), (best[apart[0]], 0 if apart[0][0] == rounds(first) else 1))
                self.assertEqual((told.table, len(told), list(told), bool(told)), (None, 0, [], False))
                comers.add((told.comer, len(told.calling)))
            else:
                table = tuple(best)
                self.assertEqual((told.table, len(told), list(told), bool(told)), (table, len(table), list(table), True))
                self.assertEqual((told.calling, told.comer), (None, None))
                self.assertIsNone(judge_round_pairs(first, second, table))
                self.assertIsNone(judge_round_pairs(first, second, listed(table)))
                sizes.add(len(table))
        self.assertTrue({(0, 1), (1, 1), (0, 2), (1, 2)} <= comers, comers)
        self.assertGreater(len(sizes), 4)

    def test_against_all_callings_of_each_length(self):
        found = 0
        for first, second in pairs_of_methods(30):
            told = RoundAlike(first, second)
            wanted = None
            for calling in callings(first.letters, 5 if len(first.letters) < 3 else 4):
                come = [len(calling) > 0 and rung(method, calling)[1][-1] == rounds(method) for method in (first, second)]
                if come[0] != come[1]:
                    wanted = (calling, 0 if come[0] else 1)
                    break
            if wanted:
                self.assertEqual((told.calling, told.comer), wanted)
                found += 1
            elif told.calling is not None:
                self.assertGreater(len(told.calling), 3)
        self.assertGreater(found, 20)

    def test_number_of_pairs(self):
        told = RoundAlike(*EDGE)
        self.assertEqual((told.calling, told.comer), ("a", 1))
        self.raises(TooMany, ["pair"], RoundAlike, *BEYOND)
        # Whether or not they come round alike, and however many heads there are.
        self.raises(TooMany, ["pair"], RoundAlike, SEVEN, SEVEN)
        still = Method(4, ((1, 2, 3, 4),), (("b", 0, ((1, 2, 3, 4),)), ("s", 0, ((1, 2, 3, 4),))))
        self.raises(TooMany, ["pair"], RoundAlike, SEVEN, still)
        self.assertIsNone(judge_round_pairs(still, still, (((1, 2, 3, 4), (1, 2, 3, 4)),)))
        self.assertEqual(judge_round_pairs(SEVEN, SEVEN, ()), -1)
        self.assertEqual(judge_round_pairs(SEVEN, SEVEN, ((rounds(SEVEN), rounds(SEVEN)),)), 0)

    def test_exactly_eight_hundred(self):
        self.assertEqual(len(plain_pairs(*EDGE)), 800)

    def test_other_letters(self):
        for other in (FIVE, Method(4, LITTLE.plain)):
            for pair in ((LITTLE, other), (other, LITTLE)):
                if pair[0].letters != pair[1].letters:
                    self.raises(Unlike, ["letters"], RoundAlike, *pair)
                    self.raises(Unlike, ["letters"], judge_round_pairs, *pair, None)
        self.raises(Unlike, ["letters"], RoundAlike, SEVEN, Method(7, SEVEN.plain))

    def test_same_letters_of_other_stages_and_sizes(self):
        # By plain leads alone both come round behind each third lead.
        first, second = Method(4, LITTLE.plain), Method(3, ((1,), (3,)))
        told = RoundAlike(first, second)
        self.assertEqual((bool(told), len(told)), (True, 3))


class Tables(TouchCase):

    def test_spoilt_tables(self):
        results = set()
        chance = random.Random(3)
        for first, second in pairs_of_methods(40):
            table = tuple(plain_pairs(first, second))
            if len(table) > 24:
                continue
            start = (rounds(first), rounds(second))
            others = [None, (), "pair", start[:1], start + start[:1], (start[0][::-1], start[1]), (start[0], start[1][::-1]),
                      (start[0][1:], start[1]), (start[0], None), ((True,) + start[0][1:], start[1]), table[-1], table[-1][::-1]]
            for told in spoilt_tables(table, chance, others):
                wanted = plain_judge(first, second, told)
                self.assertEqual(judge_round_pairs(first, second, tuple(told)), wanted)
                self.assertEqual(judge_round_pairs(first, second, listed(tuple(told))), wanted)
                results.add(wanted)
        self.assertGreater(len(results), 6)
        self.assertIn(None, results)
        for thing in (None, "table", 3, {}):
            self.assertEqual(judge_round_pairs(LITTLE, LITTLE, thing), -1)


if __name__ == "__main__":
    unittest.main()
