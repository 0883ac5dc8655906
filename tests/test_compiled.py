"""Promise 30: the book of a program without variables."""

import random
import unittest

from tests.asserts import TouchCase
from tests.progsamples import PlainRun, some_script
from tests.samples import LITTLE, callings, some_method
from truetouch.books import Book
from truetouch.compiled import book_of
from truetouch.errors import HasVariable, TooHeavy, TooMany
from truetouch.methods import Method
from truetouch.programs import Program
from truetouch.progtext import read_program

CALL = ("call", "p")


class PlainWays:
    """The entries of a program, from functions that each tell the ways on from where they stand."""

    def __init__(self, program):
        self.method = program.method
        self.number = 0
        self.loops = 0
        self.behind = {}
        self.all_places = tuple(range(1, program.method.stage + 1))
        tree = self.written_out(program.script)
        self.behind[0] = self.linked(tree, lambda left, passed: [])
        left = {bell: self.all_places for bell in self.all_places}
        self.entries = []
        for state in range(self.number + 1):
            for wants, letter, point in self.behind[state](left, ()):
                if (state, wants, letter, point) not in self.entries:
                    self.entries.append((state, wants, letter, point))

    def written_out(self, body):
        tree = []
        for word, *told in body:
            if word == "call":
                for letter in told[0]:
                    self.number += 1
                    tree.append((letter, self.number))
            elif word == "repeat":
                for at in range(told[0]):
                    before = self.number
                    tree += self.written_out(told[1])
                    if self.number == before:
                        break
            elif word == "until":
                self.loops += 1
                tree.append((word, self.loops, told[0], told[1], self.written_out(told[2])))
            else:
                tree.append((word, told[0], told[1], self.written_out(told[2]), self.written_out(told[3])))
        return tree

    def linked(self, tree, after):
        for node in tree[::-1]:
            after = self.link(node, after)
        return after

    def link(self, node, after):
        if node[0] == "until":
            _, loop, bell, places, body = node

            def ask(left, passed):
                if loop in passed:
                    return []
                return (self.kept(left, passed + (loop,), bell, places, True, after)
                        + self.kept(left, passed + (loop,), bell, places, False, inside))

            inside = self.linked(body, lambda left, passed: ask(left, passed))
            return ask
        if node[0] == "if":
            _, bell, places, first, second = node
            first, second = self.linked(first, after), self.linked(second, after)
            return lambda left, passed: (self.kept(left, passed, bell, places, True, first)
                                         + self.kept(left, passed, bell, places, False, second))
        letter, number = node
        self.behind[number] = after
        return lambda left, passed: [(tuple((bell, places) for bell, places in sorted(left.items())
                                            if places != self.all_places), letter, number)]

    def kept(self, left, passed, bell, places, is_there, onward):
        told = dict(left)
        told[bell] = tuple(place for place in left[bell] if (place in places) == is_there)
        return onward(told, passed) if told[bell] else []


def some_programs():
    for seed in range(500):
        chance = random.Random(seed)
        method = some_method(seed)
        program = Program(method, some_script(chance, method, []))
        plain = PlainWays(program)
        if plain.number <= 29 and len(plain.entries) <= 60:
            yield program, plain


class Books(TouchCase):

    def test_entries(self):
        many = set()
        for program, plain in some_programs():
            book = book_of(program)
            self.assertIsInstance(book, Book)
            self.assertIs(book.method, program.method)
            self.assertEqual(book.entries, tuple(plain.entries))
            many.add(len(book))
        self.assertGreater(len(many), 12)

    def test_many_tests_and_few_points(self):
        def body(chance, stage, depth):
            found = []
            for _ in range(chance.randint(0 if depth else 4, 3 if depth else 8)):
                if chance.random() < 0.15:
                    found.append(CALL)
                    continue
                places = tuple(sorted(chance.sample(range(1, stage + 1), chance.randint(1, stage - 1))))
                word = chance.choice(("if", "if", "until"))
                bodies = [body(chance, stage, depth + 1) if depth < 2 and chance.random() < 0.3 else () for _ in "ab"]
                found.append((word, chance.randint(1, stage), places) + tuple(bodies[:2 if word == "if" else 1]))
            return tuple(found)

        many = set()
        for seed in range(600):
            chance = random.Random(seed)
            method = Method(4, ((1, 2),)) if seed % 2 else Method(5, ((1,),))
            script = body(chance, method.stage, 0)
            if len(list(str(script).split("('"))) > 40:
                continue
            program = Program(method, script)
            plain = PlainWays(program)
            if len(plain.entries) > 60:
                self.raises(TooMany, ["entry"], book_of, program)
            else:
                self.assertEqual(book_of(program).entries, tuple(plain.entries))
            many.add(len(plain.entries))
        self.assertGreater(len(many), 20)

    def test_the_book_bears_just_what_the_run_calls(self):
        words = []
        for program, _ in some_programs():
            book = book_of(program)
            plain = PlainRun(program, {}, 400)
            words.append(plain.word)
            called = plain.calling
            for calling in list(callings(program.method.letters, 3)) + [called[:at] for at in range(0, len(called), 5)]:
                is_beginning = called[:len(calling)] == calling
                if plain.word == "endless" and len(calling) > len(called):
                    continue
                self.assertIs(book.bears(calling), is_beginning)
            if plain.word in ("round", "done"):
                for letter in program.method.letters:
                    self.assertIs(book.bears(called + letter), False)
        for word in ("round", "done", "endless"):
            self.assertGreater(words.count(word), 20)

    def test_endless_runs_go_on_in_the_book(self):
        chance = random.Random(16)
        gone = 0
        for seed in range(400):
            method = some_method(seed)
            first, second, third = ("".join(chance.choice(method.letters) for _ in range(chance.randint(1, 4)))
                                    for _ in range(3))
            bell, place, other = (chance.randint(1, method.stage) for _ in range(3))
            inner = ("if", other, (place, ), (("call", second),), (("call", third),))
            program = Program(method, (("call", first), ("until", bell, (place,), (inner,))))
            plain = PlainRun(program, {}, 400)
            if plain.word != "endless":
                continue
            # The letters from the first asking at this head on are called again and again.
            heads = [PlainRun(Program(method, (("call", plain.calling[:at] or "p"),)), {}).row
                     for at in range(1, len(plain.calling) + 1)]
            ends = [at + 1 for at in range(len(heads)) if heads[at] == heads[-1] and at + 1 < len(heads)]
            loops = [plain.calling[at:] for at in ends]
            book = book_of(program)
            self.assertTrue(any(book.bears(plain.calling + loop * 3) for loop in loops))
            level = {plain.calling}
            for _ in range(8):
                level = {calling + letter for calling in level for letter in method.letters
                         if book.bears(calling + letter)}
                self.assertEqual(len(level), 1)
            gone += 1
        self.assertGreater(gone, 20)
        program = Program(LITTLE, (("call", "p"), ("until", 2, (2,), (("call", "b"),))))
        self.assertIs(book_of(program).bears("p" + "b" * 399), True)
        self.assertIs(book_of(program).bears("p" + "b" * 300 + "p"), False)

    def test_hand_made(self):
        lines = ("call b", "until 2 24", "call p", "end", "if 3 1", "call s", "else", "call pb", "end")
        program = read_program(LITTLE, lines)
        self.assertEqual(book_of(program).entries, (
            (0, (), "b", 1),
            (1, ((2, (2, 4)), (3, (1,))), "s", 3), (1, ((2, (2, 4)), (3, (2, 3, 4))), "p", 4), (1, ((2, (1, 3)),), "p", 2),
            (2, ((2, (2, 4)), (3, (1,))), "s", 3), (2, ((2, (2, 4)), (3, (2, 3, 4))), "p", 4), (2, ((2, (1, 3)),), "p", 2),
            (4, (), "b", 5)))
        self.assertEqual(book_of(Program(LITTLE, ())), Book(LITTLE))
        self.assertEqual(book_of(Program(LITTLE, (("repeat", 0, (CALL,)),))), Book(LITTLE))
        self.assertEqual(book_of(Program(LITTLE, (("repeat", 3, (CALL,)),))).entries, (
            (0, (), "p", 1), (1, (), "p", 2), (2, (), "p", 3)))

    def test_ways_on_which_no_place_is_left(self):
        # The bell cannot be in the first place and in the third one, and tests of it leave less and less.
        script = (("if", 2, (1, 2), (("if", 2, (3,), (CALL,), (("call", "b"),)),), (("if", 2, (2, 3), (CALL,), ()),)),
                  ("call", "s"))
        self.assertEqual(book_of(Program(LITTLE, script)).entries, (
            (0, ((2, (1, 2)),), "b", 2), (0, ((2, (3,)),), "p", 3), (0, ((2, (4,)),), "s", 4),
            (1, (), "s", 4), (2, (), "s", 4), (3, (), "s", 4)))
        # A test of all places leaves one way alone, and no wants.
        script = (("if", 2, (1, 2, 3, 4), (CALL,), (("call", "b"),)),)
        self.assertEqual(book_of(Program(LITTLE, script)).entries, ((0, (), "p", 1),))

    def test_untils_without_a_point(self):
        # Who comes to an until again without a point is lost; each one that is written out counts by itself.
        inner = ("until", 1, (2,), ())
        self.assertEqual(book_of(Program(LITTLE, (inner, CALL))).entries, ((0, ((1, (2,)),), "p", 1),))
        script = (("repeat", 2, (inner, CALL)),)
        self.assertEqual(book_of(Program(LITTLE, script)).entries, ((0, ((1, (2,)),), "p", 1), (1, ((1, (2,)),), "p", 2)))
        script = (("until", 1, (2,), (("if", 2, (2,), (CALL,), ()),)), ("call", "b"))
        self.assertEqual(book_of(Program(LITTLE, script)).entries, (
            (0, ((1, (2,)),), "b", 2), (0, ((1, (1, 3, 4)), (2, (2,))), "p", 1),
            (1, ((1, (2,)),), "b", 2), (1, ((1, (1, 3, 4)), (2, (2,))), "p", 1)))

    def test_bodies_without_points_are_written_out_once(self):
        script = (("repeat", 99, (("repeat", 99, (("if", 1, (1,), (), ()),)),)), CALL)
        self.assertEqual(book_of(Program(LITTLE, script)).entries, (
            (0, ((1, (1,)),), "p", 1), (0, ((1, (2, 3, 4)),), "p", 1)))
        script = (("repeat", 0, (("if", 1, (1,), (), ()),)), CALL)
        self.assertEqual(book_of(Program(LITTLE, script)).entries, ((0, (), "p", 1),))
        script = (("repeat", 99, (("repeat", 0, (CALL,)), ("if", 1, (1,), (), ()))), CALL)
        self.assertEqual(len(book_of(Program(LITTLE, script))), 2)

    def test_has_variable(self):
        script = (("repeat", 99, (CALL,)), ("if", 1, (1,), (("repeat", "zz", ()),), ()), ("repeat", "a", ()))
        self.raises(HasVariable, ["zz"], book_of, Program(LITTLE, script))
        self.raises(HasVariable, ["k"], book_of, Program(LITTLE, (("repeat", "k", (("call", "p" * 30),)),)))

    def test_number_of_points(self):
        self.assertEqual(len(book_of(Program(LITTLE, (("call", "p" * 29),)))), 29)
        self.raises(TooHeavy, [30], book_of, Program(LITTLE, (("call", "p" * 30),)))
        body = (("call", "pb"), ("if", 1, (1,), (CALL,), (("call", "ps"), ("until", 2, (2,), (CALL,)))))
        self.assertEqual(book_of(Program(LITTLE, (("repeat", 4, body), ("call", "p" * 5)))), Book(LITTLE, PlainWays(
            Program(LITTLE, (("repeat", 4, body), ("call", "p" * 5)))).entries))
        self.raises(TooHeavy, [30], book_of, Program(LITTLE, (("repeat", 5, body),)))
        script = (("call", "p" * 40),) * 30
        for _ in range(5):
            script = (("repeat", 99, script),)
        self.raises(TooHeavy, [1200 * 99 ** 5], book_of, Program(LITTLE, script))
        # Too many points go ahead of too many entries.
        self.raises(TooHeavy, [30], book_of, Program(LITTLE, tuple(
            ("if", bell, (1,), (), ()) for bell in range(1, 5)) * 2 + (("call", "p" * 30),)))

    def test_number_of_entries(self):
        eight = Method(8, ((),))
        script = tuple(("if", bell, (1,), (), ()) for bell in range(1, 6))
        self.assertEqual(len(book_of(Program(eight, script + (("call", "p" * 29),)))), 60)
        more = script[:4] + (("if", 5, (1,), (("if", 6, (1, 2, 3, 4, 5, 6), (), ()),), ()),)
        self.raises(TooMany, ["entry"], book_of, Program(eight, more + (("call", "p" * 29),)))
        one_more = script[:4] + (("if", 5, (1,), (), ()), ("if", 5, (1, 2), (), ()))
        self.assertEqual(len(PlainWays(Program(eight, one_more + (("call", "p" * 13),))).entries), 60)
        self.assertEqual(len(book_of(Program(eight, one_more + (("call", "p" * 13),)))), 60)
        self.assertEqual(len(PlainWays(Program(eight, one_more + (("call", "p" * 14),))).entries), 61)
        self.raises(TooMany, ["entry"], book_of, Program(eight, one_more + (("call", "p" * 14),)))

    def test_many_ways_that_come_to_no_point(self):
        eight = Method(8, ((),))
        tests = tuple(("if", bell, places, (), ()) for bell in range(1, 9) for places in ((1,), (2,), (3,), (4, 5)))
        self.assertEqual(len(tests), 32)
        self.assertEqual(book_of(Program(eight, (CALL,) + tests)).entries, ((0, (), "p", 1),))
        self.raises(TooMany, ["entry"], book_of, Program(eight, tests + (CALL,)))
        # Only where the first bell is in two places at once a point would come.
        lost = (("if", 1, (7,), (), (("until", 1, (7,), ()),)),) + tests[4:] + (("if", 1, (8,), (CALL,), ()),)
        self.assertEqual(book_of(Program(eight, lost)).entries, ())


if __name__ == "__main__":
    unittest.main()
