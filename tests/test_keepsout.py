"""Promise 18: bells that keep out of places."""

import itertools
import random
import unittest

from tests.asserts import TouchCase
from tests.booksamples import PlainBook, exactly, some_book, spoilt_tables
from tests.samples import LITTLE, listed, rung, spoil
from tests.test_canbooks import is_form
from truetouch.books import Book
from truetouch.errors import BadBell, BadPlaces, TooMany
from truetouch.keepsout import KeepsOut, judge_out
from truetouch.methods import Method

START = (0, (1, 2, 3, 4))


def first_in(method, calling, bell, places):
    """The least spot of a row of the touch that has the bell in one of the places, None if there is none."""
    for spot, row in enumerate(rung(method, calling)[0]):
        if row.index(bell) + 1 in places:
            return spot
    return None


def plain_judge(plain, method, bell, places, table):
    good = [(row[0], tuple(row[1])) if is_form(row, method.stage) else None for row in table]
    if plain.first not in good:
        return -1
    for number, standing in enumerate(good):
        if standing is None:
            return number
        for letter, onward in plain.followers(standing):
            if onward not in good:
                return number
            if any(row.index(bell) + 1 in places for row in rung(method, letter, standing[1])[0]):
                return number
    return None


def some_places(seed, stage):
    tuples = [places for many in range(1, stage + 1) for places in itertools.combinations(range(1, stage + 1), many)]
    return random.Random(seed).choice(tuples[:stage + 3])


class Verdicts(TouchCase):

    def test_against_the_rows_rung(self):
        told = []
        for seed in range(150):
            book = some_book(seed)
            method = book.method
            bell, places = 1 + seed % method.stage, some_places(seed, method.stage)
            verdict = KeepsOut(book, bell, places)
            plain = PlainBook(book)
            borne = plain.borne(5)
            found = [calling for calling in borne if first_in(method, calling, bell, places) is not None]
            if found:
                self.assertEqual(verdict.calling, found[0])
            if verdict:
                self.assertEqual((verdict.calling, verdict.spot), (None, None))
                table = tuple(plain.callings())
                self.assertIsNone(judge_out(book, bell, places, table))
            else:
                self.assertEqual(verdict.spot, first_in(method, verdict.calling, bell, places))
                self.assertIs(book.bears(verdict.calling), True)
                if not found:
                    self.assertGreater(len(verdict.calling), 5)
                table = ()
            self.assertIs(bool(verdict), verdict.calling is None)
            self.assertEqual(verdict.table, table if verdict else None)
            self.assertEqual((len(verdict), list(verdict)), (len(table), list(table)))
            told.append(verdict.calling if verdict.calling is None else len(verdict.calling))
        self.assertGreater(told.count(None), 20)
        self.assertGreater(len(set(told)), 3)

    def test_rounds_is_rung_and_the_end_is_not(self):
        # Each lead is one change: it rings its head alone, and the third bell is in the fourth place at the end.
        method = Method(4, ((1, 2),))
        book = Book(method, ((0, (), "p", 1),))
        for bell in range(1, 5):
            for place in range(1, 5):
                verdict = KeepsOut(book, bell, (place,))
                self.assertIs(bool(verdict), bell != place)
                self.assertEqual((verdict.calling, verdict.spot), (None, None) if verdict else ("p", 0))
        self.assertEqual(KeepsOut(book, 3, (4,)).table, (START, (1, (1, 2, 4, 3))))
        longer = KeepsOut(Book(method, ((0, (), "p", 1), (1, (), "p", 1))), 3, (1, 4))
        self.assertEqual((longer.calling, longer.spot), ("pp", 1))

    def test_without_a_lead_nothing_is_rung(self):
        for bell in range(1, 5):
            verdict = KeepsOut(Book(LITTLE), bell, (1, 2, 3, 4))
            self.assertTrue(verdict)
            self.assertEqual(verdict.table, (START,))
            self.assertIsNone(judge_out(Book(LITTLE), bell, (1, 2, 3, 4), verdict.table))

    def test_several_standings_with_one_calling(self):
        # Behind p the state 1 goes on with s and the state 2 with b.
        book = Book(LITTLE, ((0, (), "p", 1), (0, (), "p", 2), (1, (), "s", 3), (2, (), "b", 3)))
        for bell in range(1, 5):
            for place in range(1, 5):
                verdict = KeepsOut(book, bell, (place,))
                wanted = next((calling for calling in ("p", "pb", "ps")
                               if first_in(LITTLE, calling, bell, (place,)) is not None), None)
                self.assertEqual(verdict.calling, wanted)
        # Both letters bring the second bell into the third place in their second leads; the lesser one is told.
        method = Method(4, ((1, 2),), (("b", 0, ((1, 4),)), ("a", 0, ((),))))
        book = Book(method, ((0, (), "p", 1), (0, (), "p", 2), (1, (), "b", 3), (2, (), "a", 3)))
        verdict = KeepsOut(book, 4, (3,))
        self.assertEqual((verdict.calling, verdict.spot), ("pa", 1))

    def test_lists(self):
        places = [2, 3]
        book = Book(LITTLE, ((0, (), "b", 1),))
        alone = KeepsOut(book, 4, (2, 3))
        verdict = KeepsOut(book, 4, places)
        self.assertEqual(places, [2, 3])
        spoil(places)
        self.assertEqual((verdict.calling, verdict.spot, verdict.table), (alone.calling, alone.spot, alone.table))

    def test_errors(self):
        book = exactly(401)
        for bell in (0, 6, True, None, "1", -1, 10 ** 39):
            self.raises(BadBell, [bell], KeepsOut, book, bell, None)
            self.raises(BadBell, [bell], judge_out, book, bell, None, ())
        for places in (None, (), [], (0,), (6,), (2, 1), (1, 1), (True,), "12", 3, ((1,),), (1, "2"), [1, 6]):
            self.assertIs(self.raises(BadPlaces, [places], KeepsOut, book, 5, places).places, places)
            self.raises(BadPlaces, [places], judge_out, book, 5, places, ())
        self.raises(TooMany, ["standing"], KeepsOut, book, 5, (1,))
        self.assertEqual(judge_out(book, 5, (1,), ()), -1)
        self.assertIsNotNone(KeepsOut(exactly(400), 5, (1, 2, 3, 4, 5)).calling)


class Tables(TouchCase):

    def test_spoilt_tables(self):
        results = set()
        chance = random.Random(7)
        for seed in range(120):
            book = some_book(seed)
            method = book.method
            plain = PlainBook(book)
            bell, places = 1 + seed % method.stage, some_places(seed, method.stage)
            rounds = tuple(range(1, method.stage + 1))
            others = [(-1, rounds), (-1, rounds[::-1]), (29, rounds), (0, rounds[::-1]), (1, rounds), None, "row", (),
                      (0,), (0, rounds, 0), (True, rounds), (30, rounds), (0, (True,) + rounds[1:])]
            for told in spoilt_tables(plain.callings(), chance, others):
                wanted = plain_judge(plain, method, bell, places, told)
                self.assertEqual(judge_out(book, bell, places, tuple(told)), wanted)
                self.assertEqual(judge_out(book, bell, list(places), listed(tuple(told))), wanted)
                results.add(wanted)
        self.assertGreater(len(results), 5)
        self.assertIn(None, results)

    def test_home_is_right(self):
        still = Method(4, ((1, 2), (1, 2)))
        book = Book(still, ((0, (), "p", 1),))
        table = KeepsOut(book, 2, (1, 3)).table
        self.assertEqual(table, (START, (-1, (1, 2, 3, 4))))
        self.assertIsNone(judge_out(book, 2, (1, 3), table))
        # Nothing is rung from the state -1, whatever the row is.
        self.assertIsNone(judge_out(book, 2, (1, 3), table + ((-1, (2, 1, 3, 4)),)))
        self.assertEqual(judge_out(book, 2, (1, 3), table + ((0, (2, 1, 3, 4)),)), 2)
        self.assertEqual(judge_out(book, 2, (1, 3), table[:1]), 0)
        self.assertEqual(judge_out(book, 2, (1, 3), table[1:]), -1)
        self.assertEqual(judge_out(book, 2, (2, 3), table), 0)
        # The row in which the bell comes there is the second one of the lead.
        verdict = KeepsOut(book, 3, (4,))
        self.assertEqual((verdict.calling, verdict.spot), ("p", 1))
        self.assertEqual(judge_out(book, 3, (4,), table), 0)


if __name__ == "__main__":
    unittest.main()
