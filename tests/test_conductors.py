"""Promise 21: placed conductors, what they call, and the books that they are."""

import random
import unittest

from tests.asserts import TouchCase
from tests.samples import FIVE, LITTLE, THREE, listed, rung, shuffled_rows, some_method, spoil
from truetouch.books import Book
from truetouch.conductors import Conductor
from truetouch.errors import BadBell, BadRow, BadTable
from truetouch.methods import Method

PLAIN = (("p", 0),) * 4
TABLE = ((("p", 0), ("b", 1), ("p", 1), ("s", 0)), (("s", 1), ("p", 0), ("b", 0), ("p", 1)))


def some_conductor(seed):
    chance = random.Random(seed)
    method = some_method(seed)
    many = chance.randint(1, 4)
    table = tuple(tuple((chance.choice(method.letters), chance.randrange(many)) for _ in range(method.stage))
                  for _ in range(many))
    return Conductor(method, chance.randint(1, method.stage), table)


def going(conductor, start, leads):
    """The letters that he calls in so many leads, and the pairs of memory and row at their heads and at the end."""
    memory, row = 0, start
    letters, pairs = "", [(memory, row)]
    for _ in range(leads):
        letter, memory = conductor.table[memory][row.index(conductor.bell)]
        row = rung(conductor.method, letter, row)[1][-1]
        letters += letter
        pairs.append((memory, row))
    return letters, pairs


def plain_outcome(conductor, start):
    letters, pairs = going(conductor, start, 400)
    for number in range(1, 401):
        if pairs[number][1] == start:
            return ("round", letters[:number])
        if pairs[number] in pairs[:number]:
            first = pairs.index(pairs[number])
            return ("loop", letters[:first], letters[first:number])


class Conductors(TouchCase):

    def test_attributes(self):
        conductor = Conductor(LITTLE, 3, TABLE)
        self.assertEqual((conductor.method, conductor.bell, conductor.table), (LITTLE, 3, TABLE))
        self.assertEqual(len(conductor), 2)
        self.assertEqual([len(Conductor(LITTLE, 1, (PLAIN,) * many)) for many in range(1, 5)], [1, 2, 3, 4])

    def test_what_he_calls(self):
        conductor = Conductor(LITTLE, 3, TABLE)
        for memory in range(2):
            for row in shuffled_rows(4):
                self.assertEqual(conductor(memory, row), TABLE[memory][row.index(3)])
                self.assertEqual(conductor(memory, list(row)), TABLE[memory][row.index(3)])
        for memory in (-1, 2, True, None, "0", 10 ** 39, (0,)):
            self.assertIs(self.raises(BadTable, [memory], conductor, memory, None).number, memory)
        for row in ((1, 2, 3), None, (1, 2, 3, 3), (True, 2, 3, 4), "1234", [1, 2, 3, 5]):
            self.assertIs(self.raises(BadRow, [row], conductor, 1, row).row, row)

    def test_outcome(self):
        told = []
        for seed in range(150):
            conductor = some_conductor(seed)
            for row in shuffled_rows(conductor.method.stage)[::7]:
                wanted = plain_outcome(conductor, row)
                self.assertEqual(conductor.outcome(row), wanted)
                self.assertEqual(conductor.outcome(list(row)), wanted)
                told.append((wanted[0], len(wanted[-1]), wanted[0] == "loop" and wanted[1] == ""))
            self.assertEqual(conductor.outcome(), plain_outcome(conductor, tuple(range(1, conductor.method.stage + 1))))
            self.assertEqual(conductor.outcome(None), conductor.outcome())
        self.assertGreater(len(set(told)), 15)

    def test_he_stops_at_the_start_row_with_whatever_memory(self):
        # The bob changes nothing at the lead's end, so the memory 1 is never called by.
        conductor = Conductor(LITTLE, 1, ((("b", 1),) * 4, (("p", 1),) * 4))
        self.assertEqual(conductor.outcome(), ("round", "b"))
        self.assertEqual(conductor.outcome((4, 3, 2, 1)), ("round", "b"))

    def test_a_loop_behind_other_leads(self):
        # A single, and then bobs for ever.
        conductor = Conductor(LITTLE, 1, ((("s", 1),) * 4, (("b", 1),) * 4))
        self.assertEqual(conductor.outcome(), ("loop", "s", "b"))
        conductor = Conductor(LITTLE, 1, ((("s", 1),) * 4, (("b", 2),) * 4, (("b", 1),) * 4))
        self.assertEqual(conductor.outcome(), ("loop", "s", "bb"))

    def test_bad_start(self):
        conductor = Conductor(LITTLE, 3, TABLE)
        for row in ((1, 2, 3), (1, 2, 3, 3), (True, 2, 3, 4), "1234", 0, ()):
            self.assertIs(self.raises(BadRow, [row], conductor.outcome, row).row, row)

    def test_bad_bell(self):
        for bell in (0, 5, True, None, "1", -1):
            self.raises(BadBell, [bell], Conductor, LITTLE, bell, None)
        self.assertEqual(Conductor(LITTLE, 4, (PLAIN,)).bell, 4)

    def test_bad_table(self):
        for table in (None, (), [], (PLAIN,) * 5, "p", 3, {}, (None,) * 5):
            self.raises(BadTable, [-1], Conductor, LITTLE, 1, table)
        for row in (None, (), PLAIN[:3], PLAIN + PLAIN[:1], "pppp", (("p",),) * 4, PLAIN[:3] + (("p", 2),),
                    PLAIN[:3] + (("p", -1),), PLAIN[:3] + (("p", True),), PLAIN[:3] + (("a", 0),), PLAIN[:3] + (("", 0),),
                    PLAIN[:3] + (("pb", 0),), PLAIN[:3] + ((None, 0),), PLAIN[:3] + (("p", 0, 0),), PLAIN[:3] + ("p0",),
                    PLAIN[:3] + (("p", "0"),), PLAIN[:3] + ((0, "p"),)):
            self.raises(BadTable, [0], Conductor, LITTLE, 1, (row, None))
            self.raises(BadTable, [1], Conductor, LITTLE, 1, (PLAIN, row))
        self.raises(BadTable, [3], Conductor, LITTLE, 1, (PLAIN, PLAIN, PLAIN, ()))
        # A memory is the number of one of the rows, however many there are.
        row = PLAIN[:3] + (("p", 3),)
        self.raises(BadTable, [0], Conductor, LITTLE, 1, (row, PLAIN, PLAIN))
        self.assertEqual(len(Conductor(LITTLE, 1, (row, PLAIN, PLAIN, row))), 4)

    def test_lists(self):
        table = listed(TABLE)
        conductor = Conductor(LITTLE, 3, table)
        self.assertEqual(table, listed(TABLE))
        spoil(table)
        self.assertEqual(conductor.table, TABLE)
        self.assertEqual(conductor, Conductor(LITTLE, 3, TABLE))

    def test_equal(self):
        conductor = Conductor(LITTLE, 3, TABLE)
        self.assertTrue(conductor == Conductor(Method(4, LITTLE.plain, LITTLE.calls), 3, listed(TABLE)))
        self.assertFalse(conductor == Conductor(LITTLE, 2, TABLE))
        self.assertFalse(conductor == Conductor(LITTLE, 3, TABLE[:1] + TABLE[:1]))
        self.assertFalse(conductor == Conductor(Method(4, LITTLE.plain, LITTLE.calls[::-1]), 3, TABLE))
        for thing in (None, TABLE, LITTLE):
            self.assertIs(conductor == thing, False)


class AsBooks(TouchCase):

    def test_entries(self):
        book = Conductor(LITTLE, 3, TABLE).as_book()
        self.assertIsInstance(book, Book)
        self.assertEqual(book.method, LITTLE)
        self.assertEqual(book.entries, (
            (0, ((3, (1,)),), "p", 0), (0, ((3, (2,)),), "b", 1), (0, ((3, (3,)),), "p", 1), (0, ((3, (4,)),), "s", 0),
            (1, ((3, (1,)),), "s", 1), (1, ((3, (2,)),), "p", 0), (1, ((3, (3,)),), "b", 0), (1, ((3, (4,)),), "p", 1)))
        eight = Method(8, ((1, 8),))
        self.assertEqual(len(Conductor(eight, 8, (((("p", 3),) * 8),) * 4).as_book()), 32)

    def test_it_bears_what_he_calls_and_the_beginnings(self):
        for seed in range(100):
            conductor = some_conductor(seed)
            book = conductor.as_book()
            outcome = conductor.outcome()
            called = outcome[1] if outcome[0] == "round" else outcome[1] + outcome[2] * 3
            for number in range(min(len(called), 12) + 1):
                self.assertIs(book.bears(called[:number]), True)
                for letter in conductor.method.letters:
                    is_next = number < len(called) and called[number] == letter
                    if number < len(called) or outcome[0] == "round":
                        self.assertIs(book.bears(called[:number] + letter), is_next)

    def test_methods_of_the_samples(self):
        for method in (THREE, FIVE):
            conductor = Conductor(method, 1, ((("p", 0),) * method.stage,))
            self.assertEqual(conductor.outcome(), plain_outcome(conductor, tuple(range(1, method.stage + 1))))


if __name__ == "__main__":
    unittest.main()
