"""Promise 19: true books, trails and their tables."""

import random
import unittest

from tests.asserts import TouchCase
from tests.booksamples import SHORT, TWENTY, PlainBook, by_length, chain, exactly, some_book, spoilt_tables
from tests.samples import LITTLE, listed, repeat_of, rung
from tests.test_canbooks import is_form
from truetouch.books import Book
from truetouch.errors import TooMany
from truetouch.methods import Method
from truetouch.truebooks import TrueVerdict, judge_true

MOST = 6


def trails_by_ways(plain, most):
    """The trails of all ways of at most so many leads, with their least callings, in order."""
    found = {}
    for calling, way in plain.ways(most):
        for letter, standing in zip(calling, way):
            trail = (standing[1], letter, way[-1])
            if trail not in found or by_length(calling) < by_length(found[trail]):
                found[trail] = calling
    return sorted(found, key=lambda trail: (by_length(found[trail]), trail))


def is_trail(row, method):
    return (isinstance(row, (tuple, list)) and len(row) == 3 and is_form((0, row[0]), method.stage)
            and isinstance(row[1], str) and len(row[1]) == 1 and row[1] in method.letters
            and is_form(row[2], method.stage))


def plain_judge(plain, table):
    method = plain.method
    told = [(tuple(row[0]), row[1], (row[2][0], tuple(row[2][1]))) if is_trail(row, method) else None for row in table]

    def own(letter):
        return repeat_of(rung(method, letter)[0]) is not None

    def clash(row, first, other, second):
        return bool(set(rung(method, first, row)[0]) & set(rung(method, second, other)[0]))

    for letter, onward in plain.followers(plain.first):
        if own(letter) or (plain.first[1], letter, onward) not in told:
            return -1
    for number, trail in enumerate(told):
        if trail is None:
            return number
        row, first, (state, here) = trail
        for letter, onward in plain.followers((state, here)):
            if own(letter) or clash(row, first, here, letter):
                return number
            if (row, first, onward) not in told or (here, letter, onward) not in told:
                return number
    return None


def number_of_trails(plain):
    """How many trails there are, by going on from each lead of each standing."""
    many = 0
    for standing in plain.standings():
        led = plain.followers(standing)
        for letter in {letter for letter, _ in led}:
            waiting = [onward for told, onward in led if told == letter]
            found = set(waiting)
            while waiting:
                for _, onward in plain.followers(waiting.pop()):
                    if onward not in found:
                        found.add(onward)
                        waiting.append(onward)
            # A trail tells the head alone, so other states at this head can have the same ones.
            plain.gathered.setdefault((standing[1], letter), set()).update(found)
    for found in plain.gathered.values():
        many += len(found)
    return many


def small_books():
    """Books with at most 2,000 trails."""
    books = []
    for seed in range(200):
        plain = PlainBook(some_book(seed))
        plain.gathered = {}
        if number_of_trails(plain) <= 2000:
            books.append(plain.book)
    return books


BOOKS = small_books()


class Verdicts(TouchCase):

    def test_against_the_rows_rung(self):
        told = []
        for book in BOOKS:
            plain = PlainBook(book)
            verdict = TrueVerdict(book)
            false = [calling for calling in plain.borne(MOST) if repeat_of(rung(book.method, calling)[0]) is not None]
            if false:
                self.assertEqual(verdict.calling, false[0])
            elif not verdict:
                self.assertGreater(len(verdict.calling), MOST)
            self.assertIs(bool(verdict), verdict.calling is None)
            if verdict:
                self.assertIsNone(verdict.spots)
                self.assertEqual(list(verdict), list(verdict.table))
                self.assertEqual(len(verdict), len(verdict.table))
                self.assertEqual(len(verdict.table), len(set(verdict.table)))
            else:
                self.assertIs(book.bears(verdict.calling), True)
                self.assertEqual(verdict.spots, repeat_of(rung(book.method, verdict.calling)[0]))
                self.assertEqual((verdict.table, len(verdict), list(verdict)), (None, 0, []))
            told.append("true" if verdict else len(verdict.calling))
        self.assertGreater(told.count("true"), 20)
        self.assertGreater(len(set(told)), 3)

    def test_trails(self):
        longest = 0
        for book in BOOKS:
            verdict = TrueVerdict(book)
            if verdict:
                plain = PlainBook(book)
                # A true book has no loop, so it has finitely many ways.
                most = 1
                while len(plain.ways(most)) != len(plain.ways(most + 1)):
                    most += 1
                self.assertEqual(verdict.table, tuple(trails_by_ways(plain, most)))
                longest = max(longest, most)
        self.assertGreater(longest, 3)

    def test_trails_with_the_same_calling_ascend(self):
        book = Book(SHORT, ((0, (), "p", 2), (0, (), "p", 1), (1, (), "b", 4), (2, (), "b", 3)))
        table = TrueVerdict(book).table
        first, second = rung(SHORT, "pb")[1][1:]
        rounds = tuple(range(1, 9))
        self.assertEqual(table, ((rounds, "p", (1, first)), (rounds, "p", (2, first)), (rounds, "p", (3, second)),
                                 (rounds, "p", (4, second)), (first, "b", (3, second)), (first, "b", (4, second))))

    def test_book_without_entries(self):
        verdict = TrueVerdict(Book(LITTLE))
        self.assertTrue(verdict)
        self.assertEqual((verdict.calling, verdict.spots, verdict.table, len(verdict)), (None, None, (), 0))
        self.assertIsNone(judge_true(Book(LITTLE), ()))

    def test_letters_that_are_false_in_themselves(self):
        method = Method(3, ((1,), (1,), (3,)), (("b", 0, ((1,), (3,))),))
        verdict = TrueVerdict(Book(method, ((0, (), "b", 1), (1, (), "p", 2))))
        self.assertEqual((verdict.calling, verdict.spots), ("bp", repeat_of(rung(method, "bp")[0])))
        verdict = TrueVerdict(Book(method, ((0, (), "p", 1),)))
        self.assertEqual((verdict.calling, verdict.spots), ("p", (0, 2)))
        self.assertEqual(judge_true(Book(method, ((0, (), "p", 1),)), TrueVerdict(Book(LITTLE)).table), -1)

    def test_a_loop_is_not_true(self):
        loops = 0
        for book in BOOKS:
            plain = PlainBook(book)
            if any(plain.has_loop(standing) for standing in plain.standings()):
                self.assertFalse(TrueVerdict(book))
                loops += 1
        self.assertGreater(loops, 20)

    def test_the_least_false_calling_is_longer_than_those_of_all_standings(self):
        # The heads behind the first lead follow one another for ever; a head that is rung again is false.
        book = Book(SHORT, ((0, (), "p", 1), (1, (), "b", 2), (2, (), "s", 1)))
        plain = PlainBook(book)
        verdict = TrueVerdict(book)
        false = next(calling for calling in plain.borne(40) if repeat_of(rung(SHORT, calling)[0]) is not None)
        self.assertEqual(verdict.calling, false)
        self.assertEqual(verdict.spots, (1, len(false) - 1))
        self.assertGreater(len(false), max(len(calling) for calling in plain.callings().values()) + 1)

    def test_number_of_trails(self):
        for leads, branch, many in ((62, 0, 1953), (62, 46, 2000), (62, 47, 2001), (63, 0, 2016)):
            book = chain(leads, branch)
            ways = PlainBook(book).ways(leads + 1)
            self.assertEqual(len({(way[at][1], calling[at], way[-1])
                                  for calling, way in ways for at in range(len(calling))}), many)
            if many <= 2000:
                verdict = TrueVerdict(book)
                self.assertTrue(verdict)
                self.assertEqual(len(verdict.table), many)
                self.assertIsNone(judge_true(book, verdict.table))
                self.assertIsNotNone(judge_true(book, verdict.table[:-1]))
            else:
                self.raises(TooMany, ["trail"], TrueVerdict, book)
                self.assertEqual(judge_true(book, ()), -1)

    def test_too_many_trails_of_a_book_that_is_not_true(self):
        book = exactly(400)
        self.assertIsNotNone(repeat_of(rung(TWENTY, "bbpp")[0]))
        self.raises(TooMany, ["trail"], TrueVerdict, book)
        # Too many standings go ahead, and there are too many trails here, too.
        self.raises(TooMany, ["standing"], TrueVerdict, exactly(401))
        told = [seed for seed in range(200) if some_book(seed) not in BOOKS]
        self.assertGreater(len(told), 2)
        for seed in told:
            self.raises(TooMany, ["trail"], TrueVerdict, some_book(seed))

    def test_by_turns(self):
        verdicts = [TrueVerdict(book) for book in BOOKS[:20]]
        for book, verdict in zip(BOOKS, verdicts):
            alone = TrueVerdict(book)
            self.assertEqual((verdict.calling, verdict.spots, verdict.table),
                             (alone.calling, alone.spots, alone.table))


class Tables(TouchCase):

    def test_spoilt_tables(self):
        results = set()
        chance = random.Random(8)
        for book in BOOKS:
            plain = PlainBook(book)
            method = book.method
            rounds = tuple(range(1, method.stage + 1))
            table = TrueVerdict(book).table or trails_by_ways(plain, 2)
            if len(table) > 60:
                continue
            others = [(rounds, "p", (-1, rounds)), (rounds, "p", (29, rounds)), (rounds, "p", (0, rounds[::-1])),
                      (rounds[::-1], "p", (1, rounds)), None, "row", (), (rounds, "p"), (rounds, "?", (0, rounds)),
                      (rounds, "", (0, rounds)), (rounds, "p", (30, rounds)), (rounds, "p", (True, rounds)),
                      (rounds, None, (0, rounds)), (rounds[1:], "p", (0, rounds)), (rounds, "p", (0, rounds), 0)]
            for told in spoilt_tables(table, chance, others):
                wanted = plain_judge(plain, told)
                self.assertEqual(judge_true(book, tuple(told)), wanted)
                self.assertEqual(judge_true(book, listed(tuple(told))), wanted)
                results.add(wanted)
        self.assertGreater(len(results), 5)
        self.assertIn(None, results)

    def test_told_tables_are_right(self):
        for book in BOOKS:
            verdict = TrueVerdict(book)
            if verdict:
                self.assertIsNone(judge_true(book, verdict.table))


if __name__ == "__main__":
    unittest.main()
