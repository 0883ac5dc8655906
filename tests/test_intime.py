"""Promise 35: mends in time, their values, answers and spoilers, and the judge of their table."""

import itertools
import random
import unittest

from tests.asserts import TouchCase
from tests.bandsamples import lettered_method, method_of, plain_heads
from tests.booksamples import spoilt_tables
from tests.samples import LITTLE, SEVEN, SIX, callings, listed, rung, shuffled_rows
from truetouch.errors import BadCalling, BadLetter, BadRow, NoMend, TooMany
from truetouch.heads import Heads
from truetouch.intime import InTime, judge_intime, mend_in_time
from truetouch.methods import Method


def moved(row, move):
    return tuple(row[place - 1] for place in move)


def undone(move):
    return tuple(move.index(place) + 1 for place in range(1, len(move) + 1))


def becomes(method, fault, called, answered):
    moves = [rung(method, letter)[1][-1] for letter in (called, answered)]
    return moved(moved(undone(moves[0]), fault), moves[1])


class PlainGame:
    """Mends in time, by looking ahead so many leads."""

    def __init__(self, method):
        self.method = method
        self.rounds = tuple(range(1, method.stage + 1))
        self.heads = sorted(plain_heads(method))
        self.kept = {}
        self.led = {(fault, called, answered): becomes(method, fault, called, answered) for fault in self.heads
                    for called in method.letters for answered in method.letters}

    def is_mended_within(self, fault, leads):
        if fault == self.rounds:
            return True
        if leads == 0:
            return False
        if (fault, leads) not in self.kept:
            self.kept[fault, leads] = all(
                any(self.is_mended_within(self.led[fault, called, answered], leads - 1) for answered in self.method.letters)
                for called in self.method.letters)
        return self.kept[fault, leads]

    def value(self, fault):
        return next((leads for leads in range(len(self.heads) + 1) if self.is_mended_within(fault, leads)), -1)


METHODS = [lettered_method(seed) for seed in range(90)]
METHODS = [method for method in METHODS if method.stage < 5]
# In this one some faults need three leads.
METHODS.append(method_of((1, 3, 4, 2), (2, 1, 3, 4), (3, 1, 4, 2), (2, 3, 1, 4)))


def is_form(thing, heads):
    return (isinstance(thing, (tuple, list)) and len(thing) == 2 and isinstance(thing[0], (tuple, list))
            and all(type(bell) is int for bell in thing[0]) and tuple(thing[0]) in heads
            and type(thing[1]) is int and thing[1] >= -1)


def plain_judge(game, table):
    good = [(tuple(row[0]), row[1]) if is_form(row, game.heads) else None for row in table]
    values = {}
    for told in good:
        if told:
            values.setdefault(*told)
    if set(values) != set(game.heads):
        return -1
    for number, told in enumerate(good):
        if told is None:
            return number
        fault, value = told
        answers = [[values[game.led[fault, called, answered]] for answered in game.method.letters]
                   for called in game.method.letters]
        if fault == game.rounds or value == 0:
            is_right = fault == game.rounds and value == 0
        elif any(all(worth == -1 for worth in behind) for behind in answers):
            is_right = value == -1
        else:
            is_right = value == 1 + max(min(worth for worth in behind if worth != -1) for behind in answers)
        if not is_right:
            return number
    return None


class Values(TouchCase):

    def test_against_looking_ahead(self):
        values = set()
        for method in METHODS:
            game = PlainGame(method)
            told = InTime(method)
            table = tuple((head, game.value(head)) for head in Heads(method))
            self.assertEqual((told.table, len(told), list(told)), (table, len(table), list(table)))
            self.assertIs(told.method, method)
            self.assertEqual(told.trap, tuple(head for head, value in table if value == -1))
            for head, value in table:
                self.assertEqual(told.value(head), value)
                self.assertEqual(told.value(list(head)), value)
            self.assertIsNone(judge_intime(method, table))
            self.assertIsNone(judge_intime(method, listed(table)))
            values |= {value for _, value in table}
        self.assertEqual(values, {-1, 0, 1, 2, 3})

    def test_answers_and_spoilers(self):
        spoilers = 0
        for method in METHODS:
            told = InTime(method)
            values = dict(told.table)
            for head in values:
                for called in method.letters:
                    behind = {answered: values[becomes(method, head, called, answered)] for answered in method.letters}
                    best = min(behind.values(), key=lambda value: (value == -1, value))
                    answer = told.answer(head, called)
                    self.assertEqual(answer, next(letter for letter in sorted(behind) if behind[letter] == best))
                    # Behind the answer the value has fallen, whatever is called.
                    if values[head] > 0:
                        self.assertIn(behind[answer], range(values[head]))
                lost = [called for called in method.letters
                        if all(values[becomes(method, head, called, answered)] == -1 for answered in method.letters)]
                self.assertEqual(told.spoiler(head), lost[0] if values[head] == -1 else None)
                spoilers += values[head] == -1 and lost[0] != method.letters[0]
        self.assertGreater(spoilers, 0)

    def test_answers_lead_home_in_time(self):
        chance = random.Random(4)
        leads = set()
        for method in METHODS:
            told = InTime(method)
            for head, value in told:
                if value > 0:
                    fault = head
                    for number in range(value):
                        called = chance.choice(method.letters)
                        fault = becomes(method, fault, called, told.answer(fault, called))
                        if told.value(fault) == 0:
                            break
                    self.assertEqual(told.value(fault), 0)
                    leads.add(number + 1)
        self.assertTrue({1, 2} <= leads)

    def test_no_head(self):
        told = InTime(LITTLE)
        for fault in (None, (2, 1, 3, 4), [2, 1, 3, 4], (1, 2, 3), (True, 2, 3, 4), "1234", (1, 2, 3, 4, 5), (), 0, (1, 2, 3, None)):
            self.assertIs(self.raises(NoMend, [fault], told.value, fault).row, fault)
            self.assertIs(self.raises(NoMend, [fault], told.answer, fault, "x").row, fault)
            self.assertIs(self.raises(NoMend, [fault], told.spoiler, fault).row, fault)
        for letter in ("x", "", "pb", None, 0, ("p",)):
            self.raises(BadLetter, [letter], told.answer, (1, 2, 3, 4), letter)

    def test_number_of_heads(self):
        self.assertEqual(len(InTime(SIX)), 720)
        self.raises(TooMany, ["head"], InTime, SEVEN)
        self.raises(TooMany, ["head"], judge_intime, SEVEN, None)

    def test_one_head(self):
        still = Method(3, ((1, 2, 3),), (("b", 0, ((1, 2, 3),)),))
        told = InTime(still)
        self.assertEqual((told.table, told.trap, told.spoiler((1, 2, 3))), ((((1, 2, 3), 0),), (), None))
        self.assertEqual(told.answer((1, 2, 3), "p"), "b")


class Tables(TouchCase):

    def test_spoilt_tables(self):
        results = set()
        chance = random.Random(7)
        for method in METHODS:
            game = PlainGame(method)
            table = InTime(method).table
            rounds = table[0][0]
            others = [None, (), "row", (rounds,), (rounds, True), (rounds, -2), (rounds, 0, 0), (rounds, None), (rounds[1:], 0),
                      (rounds, 0), (None, 0), ((*rounds[:-2], rounds[-1], rounds[-2]), 1), (rounds + (9,), 0)]
            others += [(head, value + more) for head, value in table for more in (-1, 1)]
            others += [(head, 10 ** 39) for head, _ in table[:3]]
            for told in spoilt_tables(table, chance, others):
                wanted = plain_judge(game, told)
                self.assertEqual(judge_intime(method, tuple(told)), wanted)
                self.assertEqual(judge_intime(method, listed(tuple(told))), wanted)
                results.add(wanted)
        self.assertGreater(len(results), 6)
        self.assertIn(None, results)

    def test_first_of_several_rows_tells_the_value(self):
        method = next(method for method in METHODS if 1 in dict(InTime(method).table).values())
        table = InTime(method).table
        number = next(at for at, (_, value) in enumerate(table) if value == 1)
        wrong = (table[number][0], 2)
        self.assertEqual(judge_intime(method, table + (wrong,)), len(table))
        self.assertLess(judge_intime(method, (wrong,) + table), 1)
        self.assertIsNone(judge_intime(method, table + table))
        for told in (None, "table", {}, 3, ()):
            self.assertEqual(judge_intime(method, told), -1)


class ForOneCalling(TouchCase):

    def test_against_all_answers(self):
        results = set()
        chance = random.Random(9)
        for seed in range(60):
            method = lettered_method(seed, 2)
            if method.stage == 5:
                continue
            for _ in range(6):
                calling = "".join(chance.choice(method.letters) for _ in range(chance.randint(0, 5)))
                fault = chance.choice(shuffled_rows(method.stage))
                wanted = None
                for many in range(len(calling) + 1):
                    for answer in itertools.product(method.letters, repeat=many):
                        row = fault
                        for called, answered in zip(calling, answer):
                            row = becomes(method, row, called, answered)
                        if wanted is None and row == tuple(range(1, method.stage + 1)):
                            wanted = (many, "".join(answer))
                self.assertEqual(mend_in_time(method, calling, fault), wanted)
                self.assertEqual(mend_in_time(method, calling, list(fault)), wanted)
                results.add(wanted and wanted[0])
        self.assertTrue({None, 0, 1, 2} <= results, results)

    def test_long_callings(self):
        rounds = (1, 2, 3, 4, 5, 6)
        self.assertEqual(mend_in_time(SIX, "p" * 400, rounds), (0, ""))
        told = mend_in_time(SIX, "pbs" * 133, (2, 1, 3, 4, 5, 6))
        self.assertEqual(told[0], len(told[1]))
        row = (2, 1, 3, 4, 5, 6)
        for called, answered in zip("pbs" * 133, told[1]):
            row = becomes(SIX, row, called, answered)
        self.assertEqual(row, rounds)
        # The answer is as long as the calling, not longer.
        self.assertEqual(mend_in_time(SIX, ("pbs" * 133)[:told[0]], (2, 1, 3, 4, 5, 6)), told)
        self.assertIsNone(mend_in_time(SIX, ("pbs" * 133)[:told[0] - 1], (2, 1, 3, 4, 5, 6)))
        # A method of plain leads alone keeps each fault in its class.
        self.assertIsNone(mend_in_time(Method(4, LITTLE.plain), "p" * 400, (1, 3, 4, 2)))

    def test_least_number_and_least_calling(self):
        letters = set()
        for calling in callings("bp", 3):
            told = mend_in_time(LITTLE, calling, (1, 3, 4, 2))
            letters.add(told)
        self.assertGreater(len(letters), 2)

    def test_errors_in_order(self):
        for calling, number in ((None, -1), ("p" * 401, -1), ("pxp", 1), (("p",), -1)):
            self.raises(BadCalling, [number], mend_in_time, SEVEN, calling, None)
        for row in (None, (1, 2, 3), (1, 2, 3, 3), (True, 2, 3, 4), "1234"):
            self.raises(BadRow, [row], mend_in_time, LITTLE, "p", row)
            self.raises(BadRow, [row], mend_in_time, SEVEN, "p", row)
        self.raises(TooMany, ["head"], mend_in_time, SEVEN, "p", (1, 2, 3, 4, 5, 6, 7))


if __name__ == "__main__":
    unittest.main()
