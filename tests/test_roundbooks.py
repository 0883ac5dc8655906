"""Promise 18: loops, round books, and their tables of ranks."""

import random
import unittest

from tests.asserts import TouchCase
from tests.booksamples import TWENTY, PlainBook, exactly, home, just_here, some_book, spoilt_tables
from tests.samples import LITTLE, listed, shuffled_rows
from truetouch.books import Book
from truetouch.errors import TooMany
from truetouch.roundbooks import RoundVerdict, judge_round

ROUNDS = (1, 2, 3, 4)
HOME = (-1, ROUNDS)


def plain_breach(plain, home_standing):
    """The breach, of which a loop is told only if it has at most nine letters."""
    callings = plain.callings()
    for standing, calling in callings.items():
        if not plain.followers(standing) and standing != home_standing:
            return ("stuck", calling)
    for standing, calling in callings.items():
        if plain.has_loop(standing):
            for loop, standings in plain.borne(9, standing).items():
                if loop and standing in standings:
                    return ("loop", calling, loop)
            return ("loop", calling, None)
    return None


def longest(plain, standing):
    return max([1 + longest(plain, onward) for _, onward in plain.followers(standing)], default=0)


def plain_judge(plain, stage, table):
    """What the document says of a table, row by row."""
    rows = shuffled_rows(stage)

    def is_good(row):
        if not isinstance(row, (tuple, list)) or len(row) != 2 or type(row[1]) is not int or row[1] < 0:
            return False
        standing = row[0]
        return (isinstance(standing, (tuple, list)) and len(standing) == 2 and type(standing[0]) is int
                and -1 <= standing[0] <= 29 and isinstance(standing[1], (tuple, list))
                and all(type(bell) is int for bell in standing[1]) and tuple(standing[1]) in rows)

    good = [((row[0][0], tuple(row[0][1])), row[1]) if is_good(row) else None for row in table]

    def rank(standing):
        return next((told[1] for told in good if told and told[0] == standing), None)

    if rank(plain.first) is None:
        return -1
    for number, told in enumerate(good):
        if told is None:
            return number
        followers = plain.followers(told[0])
        if told[0] != (-1, tuple(range(1, stage + 1))):
            if not followers or any(rank(onward) is None or rank(onward) >= told[1] for _, onward in followers):
                return number
    return None


class Verdicts(TouchCase):

    def test_against_a_plain_search(self):
        told = []
        for seed in range(160):
            book = some_book(seed)
            plain = PlainBook(book)
            verdict = RoundVerdict(book)
            breach = plain_breach(plain, home(book.method))
            self.assertIs(bool(verdict), breach is None)
            told.append(breach[0] if breach else "round")
            if breach is None:
                self.assertIsNone(verdict.breach)
                table = tuple((standing, longest(plain, standing)) for standing in plain.callings())
                self.assertEqual(verdict.table, table)
                self.assertEqual(list(verdict), list(table))
                self.assertEqual(len(verdict), len(table))
                self.assertIsNone(judge_round(book, table))
            else:
                self.assertEqual(verdict.breach[:2], breach[:2])
                if breach[-1] is not None:
                    self.assertEqual(verdict.breach, breach)
                self.assertIsNone(verdict.table)
                self.assertEqual((len(verdict), list(verdict)), (0, []))
        for word in ("round", "stuck", "loop"):
            self.assertGreater(told.count(word), 5, word)

    def test_book_without_entries(self):
        verdict = RoundVerdict(Book(LITTLE))
        self.assertFalse(verdict)
        self.assertEqual(verdict.breach, ("stuck", ""))

    def test_a_stuck_standing_goes_ahead_of_a_loop(self):
        # Bobs in the state 1 go round and round from the second lead on, and singles are stuck later.
        plain_lead = LITTLE.head("p")
        loop = ((0, (), "p", 1), (1, (), "b", 1))
        self.assertEqual(RoundVerdict(Book(LITTLE, loop)).breach, ("loop", "p", "b"))
        stuck = loop + ((1, just_here(plain_lead), "s", 2), (2, (), "s", 3))
        verdict = RoundVerdict(Book(LITTLE, stuck))
        self.assertEqual(verdict.breach, ("stuck", "pss"))

    def test_least_loop(self):
        # There is a loop of one letter, too, but it begins later.
        single = LITTLE.head("s")
        book = Book(LITTLE, ((0, (), "s", 1), (1, just_here(single), "b", 2), (2, (), "b", 2)))
        plain = PlainBook(book)
        verdict = RoundVerdict(book)
        self.assertEqual(verdict.breach, plain_breach(plain, HOME))

    def test_number_of_standings(self):
        verdict = RoundVerdict(exactly(400))
        self.assertEqual(verdict.breach[:2], plain_breach(PlainBook(exactly(400)), home(TWENTY))[:2])
        self.raises(TooMany, ["standing"], RoundVerdict, exactly(401))

    def test_by_turns(self):
        verdicts = [RoundVerdict(some_book(seed)) for seed in range(30)]
        for seed, verdict in enumerate(verdicts):
            alone = RoundVerdict(some_book(seed))
            self.assertEqual((verdict.breach, verdict.table), (alone.breach, alone.table))


class Tables(TouchCase):

    def test_told_tables_are_right(self):
        many = 0
        for seed in range(160):
            book = some_book(seed)
            verdict = RoundVerdict(book)
            if verdict:
                self.assertIsNone(judge_round(book, verdict.table))
                self.assertIsNone(judge_round(book, listed(verdict.table)))
                many += 1
        self.assertGreater(many, 5)

    def test_spoilt_tables(self):
        results = set()
        chance = random.Random(5)
        for seed in range(160):
            book = some_book(seed)
            plain = PlainBook(book)
            verdict = RoundVerdict(book)
            table = verdict.table or tuple((standing, 30 - at) for at, standing in enumerate(plain.callings()))
            rounds = tuple(range(1, book.method.stage + 1))
            others = [(standing, rank + more) for standing, rank in table for more in (-1, 1, 2)] + [
                ((-1, rounds), 7), ((-1, rounds[::-1]), 0), ((29, rounds), 0), None, "row", (), ((0, rounds),),
                ((0, rounds), True), ((True, rounds), 1), ((0, rounds), None), ((30, rounds), 1), ((0, rounds[1:]), 1)]
            for told in spoilt_tables(table, chance, others):
                wanted = plain_judge(plain, book.method.stage, told)
                self.assertEqual(judge_round(book, tuple(told)), wanted)
                self.assertEqual(judge_round(book, listed(tuple(told))), wanted)
                results.add(wanted)
        self.assertGreater(len(results), 5)
        self.assertIn(None, results)

    def test_ranks_that_are_greater_than_need_be(self):
        raised = 0
        for seed in range(160):
            verdict = RoundVerdict(some_book(seed))
            if verdict:
                table = tuple((standing, rank * 10 ** 38 + 5) for standing, rank in verdict.table)
                self.assertIsNone(judge_round(some_book(seed), table))
                raised += 1
        self.assertGreater(raised, 5)

    def test_hand_made(self):
        book = Book(LITTLE, ((0, (), "b", 1),))
        start = (0, ROUNDS)
        self.assertEqual(RoundVerdict(book).table, ((start, 1), (HOME, 0)))
        for table, wanted in [(((start, 1), (HOME, 0)), None), (((HOME, 0), (start, 1)), None), (((start, 1),), 0),
                              (((HOME, 0),), -1), ((), -1), (((start, 0), (HOME, 0)), 0),
                              (((start, 1), (HOME, 1)), 0), (((start, 9), (HOME, 8)), None),
                              # The first of several rows tells the rank; each row is judged with its own.
                              (((HOME, 0), (start, 1), (HOME, 5)), None), (((HOME, 5), (start, 1), (HOME, 0)), 1),
                              (((start, 1), (HOME, 0), (start, 0)), 2), (((start, 1), (HOME, 0), (start, 5)), None),
                              # What stands in rows that are not of the form is lacking.
                              (((start, 1), (HOME, 0, 0)), 0), (((start, True), (HOME, 0)), -1),
                              (((start, 1), (HOME, -1)), 0), (((start, 1), (HOME, 0), None), 2),
                              # Rows about things that are never reached are judged like all others.
                              (((start, 1), (HOME, 0), ((-1, (2, 1, 3, 4)), 0)), 2),
                              (((start, 1), (HOME, 0), ((29, ROUNDS), 3)), 2),
                              (((start, 1), (HOME, 0), ((0, (2, 1, 3, 4)), 3)), 2)]:
            self.assertEqual(judge_round(book, table), wanted, table)
            self.assertEqual(judge_round(book, listed(table)), wanted, table)
        self.assertEqual(judge_round(book, None), -1)

    def test_more_than_400_standings_can_be_judged(self):
        self.assertEqual(judge_round(exactly(401), ()), -1)


if __name__ == "__main__":
    unittest.main()
