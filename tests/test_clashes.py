"""Promise 45: methods that clash alike, and the judge of triples."""

import random
import unittest

from tests.asserts import TouchCase
from tests.bandsamples import lettered_method, method_of
from tests.booksamples import spoilt_tables
from tests.samples import FIVE, LITTLE, SEVEN, callings, listed, repeat_of, rung
from truetouch.clashes import ClashAlike, judge_clashes
from truetouch.errors import TooMany, Unlike
from truetouch.methods import Method
from truetouch.mirrors import mirrored_method
from truetouch.truths import Truth

# Moves of a group of 20 in one method and of another in the other one; and of groups of 42 and of 8.
GROUP = ((2, 3, 4, 5, 1), (1, 3, 5, 2, 4))
STILL = (1, 2, 3, 4, 5)
EDGE = (method_of(*GROUP, *(STILL,) * 3), method_of(*(STILL,) * 2, *GROUP, STILL))
SEVENS = ((2, 3, 4, 5, 6, 7, 1), (1, 4, 7, 3, 6, 2, 5))
FOURS = ((2, 3, 4, 1), (2, 1, 4, 3))
BEYOND = (method_of(*SEVENS, *((1, 2, 3, 4, 5, 6, 7),) * 4), method_of(*((1, 2, 3, 4),) * 2, *FOURS, *((1, 2, 3, 4),) * 2))


def rounds(method):
    return tuple(range(1, method.stage + 1))


def pairs_of_methods(many):
    chance = random.Random(2)
    for seed in range(many):
        first = lettered_method(seed, 2)
        if first.stage == 5:
            continue
        yield first, first
        yield first, mirrored_method(first)
        calls = tuple((letter, at, tuple(chance.choice(first.plain) for _ in told)) for letter, at, told in first.calls)
        yield first, Method(first.stage, first.plain, calls)
        yield Method(first.stage, first.plain[::-1], calls), first
        yield first, Method(3, ((1,), (3,)), tuple((letter, 0, (chance.choice(((1,), (3,), (1, 2, 3))),))
                                                   for letter in first.letters if letter != "p"))


def shares_a_row(method, first, second, row):
    """Whether the lead of the first letter, rung from rounds, and that of the second, rung from the row, ring the same."""
    return bool(set(rung(method, first)[0]) & set(rung(method, second, row)[0]))


def is_false(method, letter):
    return repeat_of(rung(method, letter)[0]) is not None


def plain_triples(first, second):
    """For each triple the least calling, by making callings lesser until none can be."""
    best = {}
    for letter in first.letters:
        best[(letter, rung(first, letter)[1][-1], rung(second, letter)[1][-1])] = letter
    changed = True
    while changed:
        changed = False
        for triple in list(best):
            for letter in first.letters:
                onward = (triple[0], rung(first, letter, triple[1])[1][-1], rung(second, letter, triple[2])[1][-1])
                calling = best[triple] + letter
                if onward not in best or (len(calling), calling) < (len(best[onward]), best[onward]):
                    best[onward] = calling
                    changed = True
    return dict(sorted(best.items(), key=lambda item: (len(item[1]), item[1])))


def plain_breach(first, second, most):
    """The least calling of at most so many letters that clashes in one method only, by trying all of them."""
    for calling in callings(first.letters, most):
        if len(calling) == 1:
            told = [is_false(method, calling) for method in (first, second)]
        elif calling:
            told = [shares_a_row(method, calling[0], calling[-1], rung(method, calling[:-1])[1][-1])
                    for method in (first, second)]
        if calling and told[0] != told[1]:
            return calling, 0 if told[0] else 1
    return None


def is_form(row, first, second):
    return (isinstance(row, (tuple, list)) and len(row) == 3 and row[0] in tuple(first.letters)
            and all(isinstance(told, (tuple, list)) and all(type(bell) is int for bell in told)
                    and sorted(told) == list(rounds(method)) for told, method in zip(row[1:], (first, second))))


def plain_judge(first, second, table):
    good = [(row[0], tuple(row[1]), tuple(row[2])) if is_form(row, first, second) else None for row in table]
    for letter in first.letters:
        if is_false(first, letter) != is_false(second, letter):
            return -1
        if (letter, rung(first, letter)[1][-1], rung(second, letter)[1][-1]) not in good:
            return -1
    for number, triple in enumerate(good):
        if triple is None:
            return number
        for letter in first.letters:
            if shares_a_row(first, triple[0], letter, triple[1]) != shares_a_row(second, triple[0], letter, triple[2]):
                return number
            if (triple[0], rung(first, letter, triple[1])[1][-1], rung(second, letter, triple[2])[1][-1]) not in good:
                return number
    return None


class Verdicts(TouchCase):

    def test_against_all_callings_of_each_length(self):
        lengths, sizes = set(), set()
        for first, second in pairs_of_methods(50):
            told = ClashAlike(first, second)
            most = 4 if len(first.letters) < 3 else 3
            wanted = plain_breach(first, second, most)
            if wanted:
                self.assertEqual((told.calling, told.clasher), wanted)
                lengths.add((len(told.calling), told.clasher))
            elif told.calling is not None:
                self.assertGreater(len(told.calling), most)
            self.assertIs(bool(told), told.calling is None)
            if told:
                table = tuple(plain_triples(first, second))
                self.assertEqual((told.table, len(told), list(told)), (table, len(table), list(table)))
                self.assertIsNone(told.clasher)
                self.assertIsNone(judge_clashes(first, second, table))
                self.assertIsNone(judge_clashes(first, second, listed(table)))
                sizes.add(len(table))
            else:
                self.assertEqual((told.table, len(told), list(told)), (None, 0, []))
        self.assertTrue({(1, 0), (1, 1), (2, 0), (2, 1), (3, 0)} <= lengths, lengths)
        self.assertGreater(len(sizes), 5)

    def test_all_callings_are_true_in_both_or_in_neither(self):
        alike = 0
        for first, second in pairs_of_methods(30):
            if ClashAlike(first, second):
                for calling in callings(first.letters, 3):
                    self.assertEqual(bool(Truth(first, calling)), bool(Truth(second, calling)))
                alike += 1
        self.assertGreater(alike, 20)

    def test_number_of_triples(self):
        self.assertEqual(len(plain_triples(*EDGE)), 2000)
        told = ClashAlike(*EDGE)
        self.assertTrue(told.calling)
        self.raises(TooMany, ["triple"], ClashAlike, *BEYOND)
        # Whether or not they clash alike, and however many heads there are.
        self.raises(TooMany, ["triple"], ClashAlike, SEVEN, SEVEN)
        self.assertEqual(judge_clashes(SEVEN, SEVEN, ()), -1)
        same = ClashAlike(method_of(*GROUP), method_of(*GROUP))
        self.assertEqual((bool(same), len(same)), (True, 40))

    def test_other_letters(self):
        for pair in ((LITTLE, Method(4, LITTLE.plain)), (Method(5, FIVE.plain), FIVE), (SEVEN, Method(7, SEVEN.plain))):
            self.raises(Unlike, ["letters"], ClashAlike, *pair)
            self.raises(Unlike, ["letters"], judge_clashes, *pair, None)

    def test_other_stages_and_sizes(self):
        # Single rows as leads: both are rung anew whenever they come round.
        first, second = Method(3, ((1,),)), Method(4, ((1, 4),))
        told = ClashAlike(first, second)
        self.assertEqual(told.table, (("p", (1, 3, 2), (1, 3, 2, 4)), ("p", (1, 2, 3), (1, 2, 3, 4))))

    def test_a_letter_that_is_false_in_itself_comes_first(self):
        first = Method(3, ((1,), (3,)), (("b", 0, ((3,), (3,))),))
        second = Method(3, ((1,), (1,)), (("b", 0, ((3,), (1,))),))
        self.assertEqual((ClashAlike(first, first).calling, bool(ClashAlike(first, first))), (None, True))
        third = Method(3, ((1,), (1,), (1,)), (("b", 0, ((1,), (3,), (1,))),))
        told = ClashAlike(Method(3, ((1,), (3,), (1,)), (("b", 0, ((1,), (1,), (1,))),)), third)
        self.assertEqual((told.calling, told.clasher), ("b", 0))
        told = ClashAlike(second, third)
        self.assertEqual((told.calling, told.clasher), ("p", 1))


class Tables(TouchCase):

    def test_spoilt_tables(self):
        results = set()
        chance = random.Random(3)
        for first, second in pairs_of_methods(40):
            table = tuple(plain_triples(first, second))
            if len(table) > 20:
                continue
            start = ("p", rounds(first), rounds(second))
            others = [None, (), "triple", start[:2], start + ("p",), ("x",) + start[1:], ("",) + start[1:], (None,) + start[1:],
                      (["p"],) + start[1:], ("p", start[1][1:], start[2]), ("p", start[1], start[1] + (9,)),
                      ("p", (True,) + start[1][1:], start[2]), start, ("p", start[1][::-1], start[2]), table[-1]]
            for told in spoilt_tables(table, chance, others):
                wanted = plain_judge(first, second, told)
                self.assertEqual(judge_clashes(first, second, tuple(told)), wanted)
                self.assertEqual(judge_clashes(first, second, listed(tuple(told))), wanted)
                results.add(wanted)
        self.assertGreater(len(results), 6)
        self.assertIn(None, results)
        for thing in (None, "table", 3, {}):
            self.assertEqual(judge_clashes(LITTLE, LITTLE, thing), -1)


if __name__ == "__main__":
    unittest.main()
