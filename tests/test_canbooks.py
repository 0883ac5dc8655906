"""Promise 18: books that can come round, and tables for those that cannot."""

import random
import unittest

from tests.asserts import TouchCase
from tests.booksamples import PlainBook, exactly, home, some_book, spoilt_tables
from tests.samples import LITTLE, listed
from truetouch.books import Book
from truetouch.canbooks import CanVerdict, judge_never
from truetouch.errors import TooMany

ROUNDS = (1, 2, 3, 4)
HOME = (-1, ROUNDS)
START = (0, ROUNDS)


def is_form(row, stage):
    return (isinstance(row, (tuple, list)) and len(row) == 2 and type(row[0]) is int and -1 <= row[0] <= 29
            and isinstance(row[1], (tuple, list)) and all(type(bell) is int for bell in row[1])
            and sorted(row[1]) == list(range(1, stage + 1)))


def plain_judge(plain, stage, table):
    good = [(row[0], tuple(row[1])) if is_form(row, stage) else None for row in table]
    if plain.first not in good:
        return -1
    for number, standing in enumerate(good):
        if standing is None or standing == (-1, tuple(range(1, stage + 1))):
            return number
        if any(onward not in good for _, onward in plain.followers(standing)):
            return number
    return None


class Verdicts(TouchCase):

    def test_against_a_plain_search(self):
        told = []
        for seed in range(120):
            book = some_book(seed)
            callings = PlainBook(book).callings()
            verdict = CanVerdict(book)
            calling = callings.get(home(book.method))
            self.assertEqual(verdict.calling, calling)
            self.assertIs(bool(verdict), calling is not None)
            table = () if verdict else tuple(callings)
            self.assertEqual(verdict.table, None if verdict else table)
            self.assertEqual((len(verdict), list(verdict)), (len(table), list(table)))
            if not verdict:
                self.assertIsNone(judge_never(book, table))
                self.assertIsNone(judge_never(book, listed(table)))
            told.append(bool(verdict))
        self.assertGreater(told.count(True), 20)
        self.assertGreater(told.count(False), 20)

    def test_calling_comes_round_and_is_borne(self):
        for seed in range(60):
            book = some_book(seed)
            verdict = CanVerdict(book)
            borne = PlainBook(book).borne(5)
            rounds = [calling for calling, standings in borne.items() if home(book.method) in standings]
            if rounds:
                self.assertEqual(verdict.calling, rounds[0])
            elif verdict:
                self.assertGreater(len(verdict.calling), 5)

    def test_book_without_entries(self):
        verdict = CanVerdict(Book(LITTLE))
        self.assertFalse(verdict)
        self.assertEqual((verdict.calling, verdict.table), (None, (START,)))

    def test_number_of_standings(self):
        self.assertIsNotNone(CanVerdict(exactly(400)).calling)
        self.raises(TooMany, ["standing"], CanVerdict, exactly(401))

    def test_by_turns(self):
        verdicts = [CanVerdict(some_book(seed)) for seed in range(20)]
        for seed, verdict in enumerate(verdicts):
            alone = CanVerdict(some_book(seed))
            self.assertEqual((verdict.calling, verdict.table), (alone.calling, alone.table))


class Tables(TouchCase):

    def test_spoilt_tables(self):
        results = set()
        chance = random.Random(6)
        for seed in range(120):
            book = some_book(seed)
            plain = PlainBook(book)
            rounds = tuple(range(1, book.method.stage + 1))
            others = [(-1, rounds), (-1, rounds[::-1]), (29, rounds), (0, rounds[::-1]), None, "row", (), (0,),
                      (0, rounds, 0), (True, rounds), (30, rounds), (-2, rounds), (0, (True,) + rounds[1:])]
            for told in spoilt_tables(plain.callings(), chance, others):
                wanted = plain_judge(plain, book.method.stage, told)
                self.assertEqual(judge_never(book, tuple(told)), wanted)
                self.assertEqual(judge_never(book, listed(tuple(told))), wanted)
                results.add(wanted)
        self.assertGreater(len(results), 5)
        self.assertIn(None, results)

    def test_hand_made(self):
        # A bob comes home at once, a plain lead never does.
        book = Book(LITTLE, ((0, (), "b", 1), (0, (), "p", 2)))
        led = (2, LITTLE.head("p"))
        for table, wanted in [((START, led), 0), ((START, led, HOME), 2), ((HOME, START, led), 0), ((), -1),
                              ((led,), -1), ((START, HOME), 0), (((0, ROUNDS, 0), led), -1)]:
            self.assertEqual(judge_never(book, table), wanted, table)
            self.assertEqual(judge_never(book, listed(table)), wanted, table)
        book = Book(LITTLE, ((0, (), "p", 2),))
        for table, wanted in [((START, led), None), ((led, START), None), ((START, led, START), None), ((START,), 0),
                              ((START, led, HOME), 2), ((START, led, (-1, (2, 1, 3, 4))), None), ((led,), -1),
                              ((START, led, (29, ROUNDS)), None), ((START, led, (2, ROUNDS)), None),
                              ((START, led, (0, (2, 1, 3, 4))), 2), ((START, led, None), 2), ((True, START, led), 0)]:
            self.assertEqual(judge_never(book, table), wanted, table)
            self.assertEqual(judge_never(book, listed(table)), wanted, table)

    def test_more_than_400_standings_can_be_judged(self):
        self.assertEqual(judge_never(exactly(401), ((0, (1, 2, 3, 4, 5)),)), 0)


if __name__ == "__main__":
    unittest.main()
