"""Promises 16, 17 and the joining of 20: books, what they bear, and their lines."""

import unittest

from tests.asserts import TouchCase
from tests.booksamples import followers_by_trying, some_entries
from tests.samples import FIVE, LITTLE, callings, lead_of, listed, shuffled_rows, some_method, spoil
from truetouch.books import Book
from truetouch.booktext import read_book, write_book
from truetouch.errors import BadCalling, BadEntry, BadLine, NoStanding, TooMany, Unlike
from truetouch.methods import Method

ROUNDS = (1, 2, 3, 4)
HOME = (-1, ROUNDS)
LINES = ("entry 0 b 1 4 24", "entry 0 p 0 4 13", "entry 1 p 0")
ENTRIES = ((0, ((4, (2, 4)),), "b", 1), (0, ((4, (1, 3)),), "p", 0), (1, (), "p", 0))
EXAMPLE = Book(LITTLE, ENTRIES)
PLAIN = (0, (), "p", 0)


def bears_by_trying(method, entries, calling):
    standings = {(0, tuple(range(1, method.stage + 1)))}
    for letter in calling:
        standings = {onward for standing in standings
                     for told, onward in followers_by_trying(method, entries, standing) if told == letter}
    return bool(standings)


class Books(TouchCase):

    def test_attributes(self):
        self.assertEqual((EXAMPLE.method, EXAMPLE.entries), (LITTLE, ENTRIES))
        self.assertEqual((Book.HOME, EXAMPLE.HOME), (-1, -1))
        self.assertEqual(EXAMPLE.beginning, (0, ROUNDS))
        self.assertEqual(len(EXAMPLE), 3)
        self.assertEqual(list(EXAMPLE), list(ENTRIES))
        self.assertEqual((len(Book(LITTLE)), Book(LITTLE).entries), (0, ()))

    def test_followers(self):
        for seed in range(30):
            method = (LITTLE, FIVE, some_method(seed))[seed % 3]
            entries = some_entries(seed, method, 6)
            book = Book(method, entries)
            for row in shuffled_rows(method.stage)[::3]:
                for state in range(-1, 4):
                    told = followers_by_trying(method, entries, (state, row))
                    self.assertEqual(book.followers((state, row)), told)
                    self.assertEqual(book.followers([state, list(row)]), told)
                    stuck = not told and (state, row) != (-1, tuple(range(1, method.stage + 1)))
                    self.assertIs(book.is_stuck((state, row)), stuck)

    def test_home(self):
        book = Book(LITTLE, (PLAIN, (0, (), "b", 5), (5, (), "p", 29)))
        self.assertEqual(book.followers((0, ROUNDS))[0], ("b", HOME))
        self.assertEqual(book.followers(HOME), ())
        self.assertIs(book.is_stuck(HOME), False)
        self.assertIs(book.is_stuck([-1, [1, 2, 3, 4]]), False)
        self.assertIs(book.is_stuck((-1, (2, 1, 3, 4))), True)
        self.assertIs(book.is_stuck((3, ROUNDS)), True)
        self.assertEqual(book.followers((5, ROUNDS)), (("p", (29, LITTLE.head("p"))),))

    def test_followers_once_each_and_ascending(self):
        book = Book(LITTLE, ((0, (), "s", 2), PLAIN, PLAIN, (0, ((1, (1,)),), "p", 0), (0, (), "s", 1), (0, (), "b", 3),
                             (0, (), "b", 4)))
        self.assertEqual(book.followers((0, ROUNDS)), (
            ("b", HOME), ("p", (0, LITTLE.head("p"))), ("s", (1, LITTLE.head("s"))), ("s", (2, LITTLE.head("s")))))

    def test_no_standing(self):
        for thing in (None, "0", 0, (0,), (0, ROUNDS, 0), (-2, ROUNDS), (30, ROUNDS), (True, ROUNDS), (0, (1, 2, 3)),
                      (0, None), (0, (1, 2, 3, 3)), ("0", ROUNDS), (0, "1234"), [0, [True, 2, 3, 4]]):
            self.assertIs(self.raises(NoStanding, [thing], EXAMPLE.followers, thing).standing, thing)
            self.assertIs(self.raises(NoStanding, [thing], EXAMPLE.is_stuck, thing).standing, thing)
        self.assertEqual(EXAMPLE.followers((29, ROUNDS)), ())

    def test_bears(self):
        borne = 0
        for seed in range(20):
            method = (LITTLE, some_method(seed))[seed % 2]
            entries = some_entries(seed, method, 8)
            book = Book(method, entries)
            for calling in callings(method.letters, 4):
                told = bears_by_trying(method, entries, calling)
                self.assertIs(book.bears(calling), told)
                borne += told
        self.assertGreater(borne, 100)
        self.assertIs(Book(LITTLE).bears(""), True)
        self.assertIs(Book(LITTLE).bears("p"), False)
        self.assertIs(EXAMPLE.bears("b"), True)
        self.assertIs(EXAMPLE.bears("bp"), False)

    def test_long_callings(self):
        book = Book(LITTLE, ((0, (), "s", 1), (1, ((3, (2,)),), "p", 2)) + tuple((2, (), "p", 2) for _ in range(3)))
        calling = "s" + "p" * 399
        self.assertIs(book.bears(calling), bears_by_trying(LITTLE, book.entries, calling))
        self.raises(BadCalling, [-1], book.bears, "x" * 401)
        self.raises(BadCalling, [1], book.bears, "pxp")
        self.raises(BadCalling, [-1], book.bears, None)
        self.raises(BadCalling, [-1], book.bears, ["p"])

    def test_entries_and_their_number(self):
        self.assertEqual(len(Book(LITTLE, (PLAIN,) * 60)), 60)
        self.raises(TooMany, ["entry"], Book, LITTLE, (PLAIN,) * 61)
        self.raises(BadEntry, [61], Book, LITTLE, (PLAIN,) * 61 + (None,))
        for entries in (None, "p", 3, {}):
            self.raises(BadEntry, [-1], Book, LITTLE, entries)
        good = ((0, (), "p", 29), (29, ((1, (1,)), (4, (1, 2, 3, 4))), "s", 0), [0, [[1, [1]]], "b", 0])
        self.assertEqual(len(Book(LITTLE, good)), 3)
        for entry in (None, "entry", (0, (), "p"), (0, (), "p", 0, 0), (-1, (), "p", 0), (30, (), "p", 0), (0, (), "p", -1),
                      (0, (), "p", 30), (True, (), "p", 0), (0, (), "p", False), (0, (), "a", 0), (0, (), "", 0),
                      (0, (), "bp", 0), (0, (), None, 0), (0, None, "p", 0), (0, "", "p", 0), (0, (None,), "p", 0),
                      (0, ((1,),), "p", 0), (0, ((1, ()),), "p", 0), (0, ((1, (1,), 1),), "p", 0), (0, ((0, (1,)),), "p", 0),
                      (0, ((5, (1,)),), "p", 0), (0, ((1, (5,)),), "p", 0), (0, ((1, (0, 1)),), "p", 0),
                      (0, ((1, (2, 1)),), "p", 0), (0, ((1, (2, 2)),), "p", 0), (0, ((2, (1,)), (1, (1,))), "p", 0),
                      (0, ((2, (1,)), (2, (2,))), "p", 0), (0, ((True, (1,)),), "p", 0), (0, ((1, (True,)),), "p", 0),
                      (0, ((1, 1),), "p", 0), (0, ((1, "1"),), "p", 0), (0, ("11",), "p", 0)):
            self.raises(BadEntry, [3], Book, LITTLE, good + (entry, None))

    def test_lists(self):
        entries = listed(ENTRIES)
        book = Book(LITTLE, entries)
        self.assertEqual(entries, listed(ENTRIES))
        spoil(entries)
        self.assertEqual(book.entries, ENTRIES)
        self.assertEqual(book, EXAMPLE)

    def test_equal(self):
        self.assertTrue(Book(LITTLE, listed(ENTRIES)) == EXAMPLE)
        self.assertTrue(Book(Method(4, LITTLE.plain, LITTLE.calls), ENTRIES) == EXAMPLE)
        self.assertFalse(Book(LITTLE, ENTRIES[::-1]) == EXAMPLE)
        self.assertFalse(Book(Method(4, LITTLE.plain), ()) == Book(LITTLE, ()))
        for thing in (None, ENTRIES, LITTLE):
            self.assertIs(EXAMPLE == thing, False)

    def test_without(self):
        for number in range(3):
            self.assertEqual(EXAMPLE.without(number).entries, ENTRIES[:number] + ENTRIES[number + 1:])
        self.assertEqual(EXAMPLE.entries, ENTRIES)
        for number in (-1, 3, True, None, "0", 10 ** 39):
            self.raises(BadEntry, [number], EXAMPLE.without, number)
        self.raises(BadEntry, [0], Book(LITTLE).without, 0)

    def test_joined(self):
        other = Book(Method(4, LITTLE.plain, LITTLE.calls), (PLAIN,))
        self.assertEqual(EXAMPLE + other, Book(LITTLE, ENTRIES + (PLAIN,)))
        self.assertEqual(other + EXAMPLE, Book(LITTLE, (PLAIN,) + ENTRIES))
        self.assertEqual(EXAMPLE.entries, ENTRIES)
        thirty = Book(LITTLE, (PLAIN,) * 30)
        self.assertEqual(len(thirty + thirty), 60)
        self.raises(TooMany, ["entry"], lambda: thirty + thirty + other)
        self.raises(Unlike, ["method"], lambda: thirty + thirty + Book(FIVE, (PLAIN,) * 60))
        self.raises(Unlike, ["method"], lambda: EXAMPLE + Book(Method(4, LITTLE.plain, LITTLE.calls[::-1])))


class BookLines(TouchCase):

    def test_example(self):
        self.assertEqual(read_book(LITTLE, LINES), EXAMPLE)
        self.assertEqual(read_book(LITTLE, list(LINES)), EXAMPLE)
        self.assertEqual(write_book(EXAMPLE), LINES)

    def test_book_without_entries(self):
        self.assertEqual(write_book(Book(LITTLE)), ())
        self.assertEqual(read_book(LITTLE, ()), Book(LITTLE))
        self.assertEqual(read_book(LITTLE, []), Book(LITTLE))

    def test_written_and_read(self):
        for seed in range(20):
            method = some_method(seed)
            book = Book(method, some_entries(seed, method, seed % 9))
            self.assertEqual(read_book(method, write_book(book)), book)
        self.assertEqual(write_book(Book(LITTLE, ((29, ((1, (1,)), (4, (1, 2, 3, 4))), "s", 0),))),
                         ("entry 29 s 0 1 1 4 1234",))

    def test_bad_lines(self):
        good = "entry 0 p 0"
        for line, word in [("", 0), (" ", 0), ("Entry 0 p 0", 0), ("p", 0), (None, 0), (["entry"], 0), ("entry", 1),
                           ("entry ", 1), ("entry 30 p 0", 1), ("entry -1 p 0", 1), ("entry 00 p 0", 1), ("entry x p 0", 1),
                           ("entry 0", 2), ("entry 0 P 0", 2), ("entry 0 pp 0", 2), ("entry 0  0", 2), ("entry 0 p", 3),
                           ("entry 0 p 30", 3), ("entry 0 p p", 3), ("entry 0 p 0 ", 4), ("entry 0 p 0 0 1", 4),
                           ("entry 0 p 0 9 1", 4), ("entry 0 p 0 x 1", 4), ("entry 0 p 0 1", 5), ("entry 0 p 0 1 ", 5),
                           ("entry 0 p 0 1 0", 5), ("entry 0 p 0 1 9", 5), ("entry 0 p 0 1 21", 5), ("entry 0 p 0 1 11", 5),
                           ("entry 0 p 0 1 1 ", 6), ("entry 0 p 0 1 1 2", 7), ("entry 0 p 0 1 1  2", 6),
                           (" entry 0 p 0", 0), ("entry  0 p 0", 1)]:
            self.raises(BadLine, [0, word], read_book, LITTLE, (line,))
            self.raises(BadLine, [2, word], read_book, LITTLE, [good, good, line, ""])

    def test_the_object_is_judged_when_all_lines_are_read(self):
        self.raises(BadEntry, [0], read_book, LITTLE, ("entry 0 a 0",))
        self.raises(BadEntry, [1], read_book, LITTLE, ("entry 0 p 0", "entry 0 p 0 5 1"))
        self.raises(BadEntry, [0], read_book, LITTLE, ("entry 0 p 0 1 5",))
        self.raises(BadEntry, [0], read_book, LITTLE, ("entry 0 p 0 2 1 1 1",))
        self.raises(BadEntry, [0], read_book, LITTLE, ("entry 0 p 0 1 1 1 2",))
        self.raises(BadLine, [1, 1], read_book, LITTLE, ("entry 0 a 0", "entry"))
        self.raises(TooMany, ["entry"], read_book, LITTLE, ("entry 0 p 0",) * 61)
        self.assertEqual(len(read_book(LITTLE, ("entry 0 p 0",) * 60)), 60)


class Samples(unittest.TestCase):

    def test_leads_of_the_samples(self):
        # The plain searches of these tests ring leads by themselves; they agree with what a method tells.
        for letter in "bps":
            self.assertEqual(tuple(lead_of(LITTLE, letter)), LITTLE.lead(letter))


if __name__ == "__main__":
    unittest.main()
