"""Promise 20: books that are alike, situations, closed tables; needless entries and lean books."""

import random
import unittest

from tests.asserts import TouchCase
from tests.booksamples import (SHORT, TWENTY, PlainBook, both_borne, difference, exactly, just_here, some_book,
                               some_entries, spoilt_tables)
from tests.samples import FIVE, LITTLE, THREE, listed, rung
from truetouch.bookpairs import BookPair, judge_books
from truetouch.books import Book
from truetouch.errors import TooMany, Unlike
from truetouch.leanbooks import lean, needless
from truetouch.methods import Method

ROUNDS = (1, 2, 3, 4)
START = (ROUNDS, (0,), ROUNDS, (0,))
# A method of another stage with the letters of LITTLE.
OTHER = Method(3, ((1,), (3,)), (("b", 1, ((1, 2, 3),)), ("s", 0, ((3,),))))


def situation(plain, other, calling):
    """The situation of a calling, by ringing it and by trying all ways of both books."""
    told = []
    for book in (plain, other):
        standings = [book.first]
        for letter in calling:
            standings = {onward for standing in standings for at, onward in book.followers(standing) if at == letter}
        told += [rung(book.method, calling)[1][-1], tuple(sorted(state for state, _ in standings))]
    return tuple(told)


def changed(book, chance):
    """A book that differs from this one a little, and can be alike to it."""
    entries = list(book.entries)
    deed = chance.randrange(4)
    if entries and deed == 0:
        del entries[chance.randrange(len(entries))]
    elif entries and deed == 1:
        entries.append(entries[chance.randrange(len(entries))])
    elif deed == 2:
        entries = entries[::-1]
    elif entries:
        # The states 1 and 2 change their names.
        names = [0, 2, 1]
        entries = [(names[state], wants, letter, names[onward]) for state, wants, letter, onward in entries]
    return Book(book.method, tuple(entries))


def some_pairs():
    chance = random.Random(3)
    for seed in range(90):
        first = some_book(seed)
        second = changed(first, chance)
        yield first, second
        yield second, first
        yield first, Book(first.method, some_entries(seed + 1000, first.method, 1 + seed % 9))
    for seed in range(20):
        yield Book(LITTLE, some_entries(seed, LITTLE, 6)), Book(OTHER, some_entries(seed, OTHER, 6))


def is_form(row, first, second):
    if not isinstance(row, (tuple, list)) or len(row) != 4:
        return False
    for told, method in ((row[0], first.method), (row[2], second.method)):
        if not isinstance(told, (tuple, list)) or not all(type(bell) is int for bell in told):
            return False
        if sorted(told) != list(range(1, method.stage + 1)):
            return False
    for states in (row[1], row[3]):
        if not isinstance(states, (tuple, list)) or not states or not all(type(state) is int for state in states):
            return False
        if list(states) != sorted(set(states)) or states[0] < -1 or states[-1] > 29:
            return False
    return True


def plain_judge(first, second, table):
    good = [tuple(tuple(part) for part in row) if is_form(row, first, second) else None for row in table]
    if (first.first[1], (0,), second.first[1], (0,)) not in good:
        return -1
    for number, told in enumerate(good):
        if told is None:
            return number
        for letter in first.method.letters:
            behind = []
            for book, row, states in ((first, told[0], told[1]), (second, told[2], told[3])):
                led = {onward for state in states for at, onward in book.followers((state, row)) if at == letter}
                behind += [rung(book.method, letter, row)[1][-1], tuple(sorted(state for state, _ in led))]
            if (behind[1] or behind[3]) and (not behind[1] or not behind[3] or tuple(behind) not in good):
                return number
    return None


class Pairs(TouchCase):

    def test_against_a_plain_search(self):
        told = []
        for first, second in some_pairs():
            plain, other = PlainBook(first), PlainBook(second)
            found = both_borne(plain, other)
            both = [calling for pair, calling in found.items() if pair[0] and pair[1]]
            if len(both) > 400:
                self.raises(TooMany, ["pair"], BookPair, first, second)
                told.append("many")
                continue
            pair = BookPair(first, second)
            wanted = difference(plain, other)
            self.assertIs(bool(pair), wanted is None)
            self.assertEqual((pair.calling, pair.bearer), wanted or (None, None))
            if wanted is None:
                table = tuple(situation(plain, other, calling) for calling in both)
                self.assertEqual(pair.table, table)
                self.assertEqual((len(pair), list(pair)), (len(table), list(table)))
                self.assertIsNone(judge_books(first, second, table))
                self.assertIsNone(judge_books(first, second, listed(table)))
            else:
                self.assertEqual((pair.table, len(pair), list(pair)), (None, 0, []))
                bears = [book.bears(pair.calling) for book in (first, second)]
                self.assertEqual(bears, [pair.bearer == 0, pair.bearer == 1])
            told.append(wanted and wanted[1])
        for result in (None, 0, 1):
            self.assertGreater(told.count(result), 2, result)

    def test_against_all_callings_up_to_some_length(self):
        for first, second in list(some_pairs())[::5]:
            borne = [PlainBook(book).borne(4) for book in (first, second)]
            only = sorted(set(borne[0]) ^ set(borne[1]), key=lambda calling: (len(calling), calling))
            try:
                pair = BookPair(first, second)
            except TooMany:
                continue
            if only:
                self.assertEqual((pair.calling, pair.bearer), (only[0], 0 if only[0] in borne[0] else 1))
            elif not pair:
                self.assertGreater(len(pair.calling), 4)

    def test_books_without_entries(self):
        pair = BookPair(Book(LITTLE), Book(OTHER))
        self.assertTrue(pair)
        self.assertEqual(pair.table, ((ROUNDS, (0,), (1, 2, 3), (0,)),))
        pair = BookPair(Book(LITTLE), Book(OTHER, ((0, (), "s", 3), (0, (), "p", 0))))
        self.assertEqual((pair.calling, pair.bearer), ("p", 1))

    def test_states_at_home_and_several_states(self):
        first = Book(LITTLE, ((0, (), "b", 7), (0, (), "p", 4), (0, (), "p", 2)))
        second = Book(LITTLE, ((0, (), "p", 0), (0, (), "b", 1)) + ((0, just_here(LITTLE.head("p")), "b", 5),))
        self.assertEqual((BookPair(first, second).calling, BookPair(first, second).bearer), ("pb", 1))
        second = Book(LITTLE, ((0, (), "b", 1), (0, (), "p", 9)))
        led = LITTLE.head("p")
        self.assertEqual(BookPair(first, second).table, (START, (ROUNDS, (-1,), ROUNDS, (-1,)), (led, (2, 4), led, (9,))))

    def test_letters(self):
        for told in (THREE, FIVE, SHORT):
            book = Book(told)
            if told.letters != LITTLE.letters:
                self.raises(Unlike, ["letters"], BookPair, book, Book(LITTLE))
                self.raises(Unlike, ["letters"], judge_books, Book(LITTLE), book, ())
        self.raises(Unlike, ["letters"], BookPair, exactly(401), Book(THREE))
        self.assertTrue(BookPair(Book(FIVE), Book(LITTLE)))

    def test_number_of_situations(self):
        for many in (399, 400):
            book = exactly(many)
            self.assertEqual(len(BookPair(book, book).table), many)
        self.raises(TooMany, ["pair"], BookPair, exactly(401), exactly(401))
        # Also where they are not alike; what only one of them bears is not counted.
        wanted = difference(PlainBook(exactly(400)), PlainBook(exactly(401)))
        pair = BookPair(exactly(400), exactly(401))
        self.assertEqual((pair.calling, pair.bearer), wanted)
        self.assertEqual(wanted[1], 1)
        self.raises(TooMany, ["pair"], BookPair, exactly(401), exactly(402))
        early = Book(TWENTY, exactly(401).entries + ((0, just_here((1, 2, 3, 4, 5)), "s", 29),))
        self.raises(TooMany, ["pair"], BookPair, exactly(401), early)
        self.assertEqual(judge_books(early, exactly(401), ()), -1)
        early = Book(TWENTY, exactly(400).entries + ((0, just_here((1, 2, 3, 4, 5)), "s", 29),))
        pair = BookPair(exactly(400), early)
        self.assertEqual((pair.calling, pair.bearer), ("s", 1))

    def test_by_turns(self):
        books = [(first, second) for first, second in list(some_pairs())[:40:3]]
        verdicts = [BookPair(first, second) for first, second in books]
        for (first, second), verdict in zip(books, verdicts):
            alone = BookPair(first, second)
            self.assertEqual((verdict.calling, verdict.bearer, verdict.table),
                             (alone.calling, alone.bearer, alone.table))


class Tables(TouchCase):

    def test_spoilt_tables(self):
        results = set()
        chance = random.Random(9)
        for first, second in list(some_pairs())[::2]:
            plain, other = PlainBook(first), PlainBook(second)
            found = [situation(plain, other, calling) for pair, calling in both_borne(plain, other).items()
                     if pair[0] and pair[1]]
            if len(found) > 60:
                continue
            one, two = plain.first[1], other.first[1]
            others = [(one, (0, 1), two, (0,)), (one, (-1,), two, (-1,)), (one, (-1, 0), two, (0, 29)), None, (), "row",
                      (one[::-1], (0,), two, (1,)), (one, (), two, (0,)), (one, (0,), two, ()), (one, (0,), two),
                      (one, (1, 0), two, (0,)), (one, (0, 0), two, (0,)), (one, (0,), two, (30,)),
                      (one, (-2,), two, (0,)), (one, (False,), two, (0,)), (one, 0, two, 0), (one[1:], (0,), two, (0,)),
                      (one[::-1], (-1,), two, (-1,)), (one, (29,), two[::-1], (28,)), (one, (0,), two, (0,), 0)]
            for told in spoilt_tables(found, chance, others):
                wanted = plain_judge(plain, other, told)
                self.assertEqual(judge_books(first, second, tuple(told)), wanted)
                self.assertEqual(judge_books(first, second, listed(tuple(told))), wanted)
                results.add(wanted)
        self.assertGreater(len(results), 5)
        self.assertIn(None, results)


def plain_needless(book):
    plain = PlainBook(book)
    return tuple(number for number in range(len(book.entries))
                 if difference(plain, PlainBook(book.without(number))) is None)


class LeanBooks(TouchCase):

    def books(self):
        for seed in range(120):
            book = some_book(seed)
            doubled = Book(book.method, book.entries + book.entries[seed % 3:seed % 3 + 2])
            for told in (book, doubled):
                if len(both_borne(PlainBook(told), PlainBook(told))) <= 100:
                    yield told

    def test_needless(self):
        found = set()
        for book in self.books():
            told = needless(book)
            self.assertEqual(told, plain_needless(book))
            found.add(told)
        self.assertGreater(len(found), 10)

    def test_lean(self):
        left_out = 0
        for book in self.books():
            kept = list(book.entries)
            number = 0
            while number < len(kept):
                shorter = Book(book.method, tuple(kept[:number] + kept[number + 1:]))
                if difference(PlainBook(Book(book.method, tuple(kept))), PlainBook(shorter)) is None:
                    del kept[number]
                else:
                    number += 1
            told = lean(book)
            self.assertEqual(told, Book(book.method, tuple(kept)))
            self.assertTrue(BookPair(book, told))
            self.assertEqual(needless(told), ())
            left_out += len(book) - len(told)
        self.assertGreater(left_out, 100)

    def test_of_two_equal_entries_each_is_needless_and_the_first_is_left_out(self):
        book = Book(LITTLE, ((0, (), "b", 1), (0, (), "p", 3), (0, (), "b", 2), (7, (), "s", 0)))
        self.assertEqual(needless(book), (0, 2, 3))
        self.assertEqual(lean(book).entries, book.entries[1:3])
        self.assertEqual(len(book), 4)

    def test_without_entries(self):
        self.assertEqual(needless(Book(LITTLE)), ())
        self.assertEqual(lean(Book(LITTLE)), Book(LITTLE))

    def test_too_many(self):
        self.raises(TooMany, ["pair"], needless, exactly(402))
        self.raises(TooMany, ["pair"], lean, exactly(402))
        book = exactly(400)
        self.assertEqual(needless(book), plain_needless(book))


if __name__ == "__main__":
    unittest.main()
