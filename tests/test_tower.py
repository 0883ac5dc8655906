"""Promise 50: towers and their deeds."""

import random
import unittest

from tests.asserts import TouchCase
from tests.samples import FIVE, LITTLE, SEVEN, THREE
from truetouch.books import Book
from truetouch.errors import BadCalling, BadName, InUse, TooMany, TouchError, Twice, Unknown, Unlike
from truetouch.methods import Method
from truetouch.programs import Program
from truetouch.touches import Touch
from truetouch.tower import Tower

BOOK = Book(LITTLE, ((0, (), "p", 0),))
PROGRAM = Program(LITTLE, (("repeat", "k", (("call", "p"),)),))
NO_NAMES = ("", "A", "a1", "abcdefghi", "a b", " a", None, 0, True, ("a",), ["a"], "-", "a\n")


def filled():
    tower = Tower()
    tower.keep_method("m", LITTLE)
    tower.keep_touch("t", "m", "pbs")
    tower.keep_book("b", "m", BOOK)
    tower.keep_program("abcdefgh", "m", PROGRAM)
    tower.keep_method("n", THREE)
    return tower


def state(tower):
    return ([(name, tower[name], tower.method_of(name)) for name in tower], tower.deeds, len(tower))


class PlainTower:
    """A tower that remembers its deeds alone."""

    def __init__(self):
        self.deeds = []

    def things(self):
        kept = {}
        for word, name, of, thing in self.deeds:
            if word == "strike":
                del kept[name]
            else:
                kept[name] = (word, of, thing)
        return kept

    def do(self, word, name, of=None, thing=None):
        kept = self.things()
        if word == "strike":
            if name not in kept:
                return Unknown, name
            users = [user for user in kept if kept[user][1] == name]
            if users:
                return InUse, users[0]
        else:
            if name in kept:
                return Twice, name
            if word != "method" and kept.get(of, ("",))[0] != "method":
                return Unknown, of
            if word == "touch" and any(letter not in kept[of][2].letters for letter in thing):
                return BadCalling, min(thing.index(letter) for letter in thing if letter not in kept[of][2].letters)
            if word in ("book", "program") and not thing.method == kept[of][2]:
                return Unlike, "method"
            if len(kept) >= 30:
                return TooMany, "thing"
        self.deeds.append((word, name, of, thing))
        return None


def some_deed(chance):
    name, of = chance.choice("abcdef"), chance.choice("abcdef")
    method = chance.choice((LITTLE, FIVE, THREE))
    calling = chance.choice(("", "pp", "pb", "ps"))
    return chance.choice([("method", name, None, method), ("method", name, None, method), ("touch", name, of, calling),
                          ("book", name, of, Book(method, ((0, (), "p", 1),))), ("program", name, of, Program(method, ())),
                          ("strike", name, None, None)])


def do(tower, word, name, of, thing):
    if word == "strike":
        tower.strike(name)
    elif word == "method":
        tower.keep_method(name, thing)
    else:
        {"touch": tower.keep_touch, "book": tower.keep_book, "program": tower.keep_program}[word](name, of, thing)


class Towers(TouchCase):

    def test_new(self):
        tower = Tower()
        self.assertEqual((len(tower), list(tower), tower.deeds, "a" in tower), (0, [], 0, False))

    def test_filled(self):
        tower = filled()
        self.assertEqual(list(tower), ["m", "t", "b", "abcdefgh", "n"])
        self.assertEqual((len(tower), tower.deeds), (5, 5))
        self.assertIs(tower["m"], LITTLE)
        self.assertEqual(tower["t"], Touch(LITTLE, "pbs"))
        self.assertEqual((tower["b"], tower["abcdefgh"], tower["n"]), (BOOK, PROGRAM, THREE))
        self.assertEqual([tower.method_of(name) for name in tower], [None, "m", "m", "m", None])
        self.assertEqual(["m" in tower, "x" in tower, None in tower, ["m"] in tower], [True, False, False, False])

    def test_against_remembered_deeds(self):
        told = {}
        for seed in range(150):
            chance = random.Random(seed)
            tower, plain = Tower(), PlainTower()
            for _ in range(25):
                deed = some_deed(chance)
                before = state(tower)
                wanted = plain.do(*deed)
                if wanted:
                    kind, worth = wanted
                    self.raises(kind, [worth], do, tower, *deed)
                    self.assertEqual(state(tower), before)
                    told[kind] = told.get(kind, 0) + 1
                else:
                    do(tower, *deed)
                kept = plain.things()
                self.assertEqual(list(tower), list(kept))
                self.assertEqual([tower.method_of(name) for name in tower], [of for _, of, _ in kept.values()])
                for name, (word, of, thing) in kept.items():
                    self.assertEqual(tower[name], Touch(tower[of], thing) if word == "touch" else thing)
                self.assertEqual(tower.deeds, len(plain.deeds))
        self.assertEqual(set(told), {Unknown, InUse, Twice, BadCalling, Unlike})

    def test_errors_in_order(self):
        tower = filled()
        before = state(tower)
        for name in NO_NAMES:
            self.assertIs(self.raises(BadName, [name], tower.keep_method, name, LITTLE).name, name)
            self.raises(BadName, [name], tower.keep_touch, name, "x", None)
            self.raises(BadName, [name], tower.keep_book, name, "x", Book(FIVE))
            self.raises(BadName, [name], tower.keep_program, name, "x", Program(FIVE, ()))
            self.raises(BadName, [name], tower.strike, name)
            self.assertIs(self.raises(Unknown, [name], lambda: tower[name]).name, name)
            self.raises(Unknown, [name], tower.method_of, name)
            self.assertIs(name in tower, False)
        for name in tower:
            self.raises(Twice, [name], tower.keep_method, name, LITTLE)
            self.raises(Twice, [name], tower.keep_touch, name, "x", None)
            self.raises(Twice, [name], tower.keep_book, name, "x", Book(FIVE))
            self.raises(Twice, [name], tower.keep_program, name, "x", Program(FIVE, ()))
        for of in ("x", "t", "b", "abcdefgh", *NO_NAMES):
            self.assertIs(self.raises(Unknown, [of], tower.keep_touch, "new", of, None).name, of)
            self.raises(Unknown, [of], tower.keep_book, "new", of, Book(FIVE))
            self.raises(Unknown, [of], tower.keep_program, "new", of, Program(FIVE, ()))
        for calling, number in ((None, -1), ("p" * 401, -1), ("pxp", 1), (("p",), -1)):
            self.raises(BadCalling, [number], tower.keep_touch, "new", "m", calling)
        for method in (FIVE, Method(4, LITTLE.plain), Method(4, LITTLE.plain, LITTLE.calls[::-1])):
            self.raises(Unlike, ["method"], tower.keep_book, "new", "m", Book(method))
            self.raises(Unlike, ["method"], tower.keep_program, "new", "m", Program(method, ()))
        self.raises(Unlike, ["method"], tower.keep_book, "new", "n", BOOK)
        for name in ("x", "tt", "zzzzzzzz"):
            self.raises(Unknown, [name], tower.strike, name)
            self.raises(Unknown, [name], tower.method_of, name)
        self.raises(InUse, ["t"], tower.strike, "m")
        self.assertEqual(state(tower), before)

    def test_books_of_equal_methods_are_kept(self):
        tower = filled()
        twin = Method(4, [list(change) for change in LITTLE.plain], LITTLE.calls)
        tower.keep_book("more", "m", Book(twin))
        tower.keep_program("other", "m", Program(twin, ()))
        self.assertEqual(tower["more"], Book(LITTLE))

    def test_number_of_things(self):
        tower = Tower()
        tower.keep_method("m", LITTLE)
        for number in range(29):
            # Names of 1 to 8 letters, and others.
            name = "t" * (number + 1) if number < 8 else "abcdefghijklmnopqrstuvwxyz"[number - 8] + "zz"
            tower.keep_touch(name, "m", "p")
        self.assertEqual(len(tower), 30)
        before = state(tower)
        self.raises(TooMany, ["thing"], tower.keep_method, "new", LITTLE)
        self.raises(TooMany, ["thing"], tower.keep_touch, "new", "m", "p")
        self.raises(TooMany, ["thing"], tower.keep_book, "new", "m", BOOK)
        self.raises(TooMany, ["thing"], tower.keep_program, "new", "m", PROGRAM)
        # All other errors go ahead.
        self.raises(BadCalling, [0], tower.keep_touch, "new", "m", "x")
        self.raises(Unlike, ["method"], tower.keep_book, "new", "m", Book(FIVE))
        self.raises(Twice, ["m"], tower.keep_method, "m", LITTLE)
        self.assertEqual(state(tower), before)
        tower.strike("t")
        tower.keep_method("new", LITTLE)
        self.assertEqual((len(tower), tower.deeds), (30, 32))

    def test_struck_and_added_again(self):
        tower = filled()
        tower.strike("t")
        self.assertEqual(("t" in tower, list(tower), tower.deeds), (False, ["m", "b", "abcdefgh", "n"], 6))
        self.raises(InUse, ["b"], tower.strike, "m")
        tower.keep_touch("t", "n", "ab")
        self.assertEqual((list(tower)[-1], tower["t"], tower.method_of("t")), ("t", Touch(THREE, "ab"), "n"))
        self.raises(InUse, ["t"], tower.strike, "n")
        for name in ("b", "abcdefgh", "m"):
            tower.strike(name)
        tower.keep_method("m", FIVE)
        self.assertEqual((list(tower), tower["m"], tower.deeds), (["n", "t", "m"], FIVE, 11))
        self.raises(Unlike, ["method"], tower.keep_book, "b", "m", BOOK)

    def test_copy_and_equal(self):
        tower = filled()
        twin = tower.copy()
        self.assertTrue(twin == tower)
        self.assertEqual(state(twin), state(tower))
        twin.strike("t")
        self.assertFalse(twin == tower)
        self.assertIn("t", tower)
        tower.strike("t")
        self.assertTrue(twin == tower)
        # What is kept can be the same by other deeds.
        tower.keep_touch("t", "m", "p")
        tower.strike("t")
        self.assertEqual((list(twin), state(twin)[0]), (list(tower), state(tower)[0]))
        self.assertFalse(twin == tower)
        self.assertTrue(Tower() == Tower())
        first, second = Tower(), Tower()
        first.keep_method("m", LITTLE)
        second.keep_method("m", Method(4, LITTLE.plain, LITTLE.calls))
        self.assertTrue(first == second)
        first.keep_touch("t", "m", "pb")
        second.keep_touch("t", "m", "bp")
        self.assertFalse(first == second)
        third = Tower()
        third.keep_method("n", LITTLE)
        self.assertFalse(third == Tower())
        for thing in (None, (), LITTLE, {}):
            self.assertIs(tower == thing, False)

    def test_many_heads_do_not_matter(self):
        tower = Tower()
        tower.keep_method("seven", SEVEN)
        tower.keep_touch("t", "seven", "pbs" * 100)
        self.assertEqual(len(tower["t"]), 300)
        self.assertRaises(TouchError, tower.strike, "seven")


if __name__ == "__main__":
    unittest.main()
