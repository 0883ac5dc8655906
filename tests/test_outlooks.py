"""Promise 16: the standings of a book, ordered by their least callings."""

import unittest

from tests.asserts import TouchCase
from tests.booksamples import PlainBook, exactly, home, some_book
from tests.samples import LITTLE, listed
from truetouch.books import Book
from truetouch.booktext import read_book
from truetouch.errors import NoStanding, TooMany
from truetouch.methods import Method
from truetouch.outlooks import Outlook

ROUNDS = (1, 2, 3, 4)


class Outlooks(TouchCase):

    def test_standings_and_their_least_callings(self):
        several = 0
        for seed in range(80):
            book = some_book(seed)
            callings = PlainBook(book).callings()
            outlook = Outlook(book)
            self.assertIs(outlook.book, book)
            self.assertEqual(list(outlook), list(callings))
            self.assertEqual(len(outlook), len(callings))
            for standing, calling in callings.items():
                self.assertEqual(outlook[standing], calling)
                self.assertEqual(outlook[listed(standing)], calling)
                self.assertIs(standing in outlook, True)
                self.assertIs(listed(standing) in outlook, True)
            several += len(set(callings.values())) < len(callings)
        self.assertGreater(several, 10)

    def test_stuck(self):
        for seed in range(80):
            book = some_book(seed)
            plain = PlainBook(book)
            stuck = tuple(standing for standing in plain.callings()
                          if not plain.followers(standing) and standing != home(book.method))
            self.assertEqual(Outlook(book).stuck, stuck)

    def test_every_calling_borne_is_least_or_comes_later(self):
        for seed in range(20):
            book = some_book(seed)
            outlook = Outlook(book)
            seen = []
            for calling, standings in PlainBook(book).borne(5).items():
                fresh = sorted(standing for standing in standings if standing not in seen)
                seen += fresh
                for standing in standings:
                    self.assertEqual(outlook[standing] == calling, standing in fresh)
            self.assertEqual(list(outlook)[:len(seen)], seen)

    def test_example(self):
        lines = ("entry 0 b 1 4 24", "entry 0 p 0 4 13", "entry 1 p 0")
        outlook = Outlook(read_book(LITTLE, lines))
        self.assertEqual(list(outlook), [(0, ROUNDS), (-1, ROUNDS)])
        self.assertEqual([outlook[standing] for standing in outlook], ["", "b"])
        self.assertEqual(outlook.stuck, ())

    def test_those_with_the_same_calling_ascend(self):
        head = LITTLE.head("p")
        book = Book(LITTLE, ((0, (), "p", 5), (0, (), "p", 2), (2, (), "s", 0), (5, (), "b", 0), (5, (), "s", 4)))
        outlook = Outlook(book)
        self.assertEqual(list(outlook)[:3], [(0, ROUNDS), (2, head), (5, head)])
        told = [(outlook[standing], standing[0]) for standing in list(outlook)[3:6]]
        # Behind the same calling p both are gone on from together, so the b from the state 5 comes ahead.
        self.assertEqual(told, [("pb", 0), ("ps", 0), ("ps", 4)])

    def test_book_without_entries(self):
        outlook = Outlook(Book(LITTLE))
        self.assertEqual(list(outlook), [(0, ROUNDS)])
        self.assertEqual(outlook.stuck, ((0, ROUNDS),))
        self.assertEqual(outlook[0, ROUNDS], "")

    def test_rounds_at_the_beginning_is_not_home(self):
        outlook = Outlook(Book(LITTLE, ((0, (), "b", 3), (3, (), "p", 0))))
        self.assertEqual(list(outlook), [(0, ROUNDS), (-1, ROUNDS)])
        self.assertNotIn((3, ROUNDS), outlook)
        # A method whose plain lead changes nothing brings every book home at once.
        still = Method(3, ((1, 2, 3),))
        self.assertEqual(list(Outlook(Book(still, ((0, (), "p", 0),)))), [(0, (1, 2, 3)), (-1, (1, 2, 3))])

    def test_no_standing(self):
        outlook = Outlook(Book(LITTLE, ((0, (), "p", 1),)))
        for thing in (None, "0", 0, (0,), (0, ROUNDS, 0), (-2, ROUNDS), (30, ROUNDS), (True, ROUNDS), (0, (1, 2, 3)),
                      (0, LITTLE.head("p")), (1, ROUNDS), (-1, ROUNDS), [1, [1, 2, 3, 4]], (False, ROUNDS), {}):
            self.assertIs(thing in outlook, False)
            self.assertIs(self.raises(NoStanding, [thing], lambda: outlook[thing]).standing, thing)

    def test_number_of_standings(self):
        for many in (399, 400):
            book = exactly(many)
            callings = PlainBook(book).callings()
            self.assertEqual(len(callings), many)
            self.assertEqual(list(Outlook(book)), list(callings))
        self.assertEqual(len(PlainBook(exactly(401)).standings()), 401)
        self.raises(TooMany, ["standing"], Outlook, exactly(401))
        self.raises(TooMany, ["standing"], Outlook, exactly(402))

    def test_by_turns(self):
        books = [some_book(seed) for seed in range(6)]
        alone = [(list(Outlook(book)), Outlook(book).stuck) for book in books]
        outlooks = [Outlook(book) for book in books]
        for standing in range(4):
            for outlook, (standings, stuck) in zip(outlooks, alone):
                self.assertEqual(list(outlook), standings)
                self.assertEqual(outlook.stuck, stuck)
                if standing < len(standings):
                    self.assertIn(standings[standing], outlook)


if __name__ == "__main__":
    unittest.main()
