"""Promise 27: values, and runs of programs."""

import random
import unittest

from tests.asserts import TouchCase
from tests.progsamples import PlainRun, some_program
from tests.samples import LITTLE
from truetouch.errors import BadValue, TooMany, Unknown
from truetouch.methods import Method
from truetouch.programs import Program
from truetouch.progtext import read_program
from truetouch.runs import run

# The plain lead lets two bells cross, and a bob nothing at all.
STILL = Method(3, ((1,),), (("b", 0, ((1, 2, 3),)),))


class Runs(TouchCase):

    def test_against_a_plain_run(self):
        told = []
        chance = random.Random(14)
        for seed in range(400):
            program = some_program(seed)
            for _ in range(4):
                values = {name: chance.choice((0, 1, 2, 3, 5, 9)) for name in program.variables}
                plain = PlainRun(program, values, 400)
                told.append(plain.word)
                if plain.word == "many":
                    self.raises(TooMany, ["lead"], run, program, values)
                else:
                    self.assertEqual(run(program, values), (plain.word, plain.calling))
        for word in ("round", "done", "endless"):
            self.assertGreater(told.count(word), 30, word)

    def test_hand_made(self):
        self.assertEqual(run(Program(LITTLE, ()), {}), ("done", ""))
        self.assertEqual(run(Program(LITTLE, (("call", "p"),)), {}), ("done", "p"))
        # The run ends as soon as the head is rounds, in the midst of a call, too.
        self.assertEqual(run(Program(LITTLE, (("call", "ppps"), ("call", "s"))), {}), ("round", "ppp"))
        self.assertEqual(run(Program(LITTLE, (("call", "b"),)), {}), ("round", "b"))
        self.assertEqual(run(Program(LITTLE, (("repeat", 2, (("call", "pb"),)), ("call", "pp"))), {}), ("round", "pbpbp"))
        lines = ("repeat k", "call 2pb", "end", "until 2 12", "call p", "end")
        self.assertEqual(run(read_program(LITTLE, lines), {"k": 0}), ("done", ""))
        self.assertEqual(run(read_program(LITTLE, lines), {"k": 1}), ("round", "ppbp"))

    def test_until(self):
        # At rounds the second bell is in the second place, and it is asked ahead of each pass.
        for places, wanted in [((2,), ("done", "")), ((4,), ("done", "p")), ((3,), ("done", "pp")),
                               ((1,), ("round", "ppp"))]:
            self.assertEqual(run(Program(LITTLE, (("until", 2, places, (("call", "p"),)),)), {}), wanted)
        # Bobs bring the same head again; the one that is rung at it is still told.
        body = (("call", "p"), ("until", 2, (2,), (("call", "b"),)))
        self.assertEqual(run(Program(LITTLE, body), {}), ("endless", "pb"))
        # A body without leads is endless when it is asked again.
        for inner in ((), (("repeat", 3, ()),), (("if", 1, (1,), (), (("call", "p"),)),), (("until", 1, (1,), ()),)):
            self.assertEqual(run(Program(LITTLE, (("until", 2, (1,), inner),)), {}), ("endless", ""))

    def test_asked_again_in_a_later_going_through(self):
        # The inner until is asked at the same head in each pass of the repeat, but only once in each going through.
        body = ("repeat", 3, (("until", 2, (4,), (("call", "b"), ("call", "p"))), ("call", "b")))
        program = Program(LITTLE, (("call", "p"), body))
        self.assertEqual(run(program, {}), ("done", "pbbb"))
        still = Method(4, ((),), (("b", 0, ((1, 4),)), ("s", 0, ((1, 2, 3, 4),))))
        # Behind the s the head is the same: the inner until asks at it anew, and is left at once in the next pass.
        inner = ("until", 3, (4,), (("call", "b"),))
        script = (("call", "p"), ("repeat", 2, (inner, ("call", "s"))))
        plain = PlainRun(Program(still, script), {})
        self.assertEqual(run(Program(still, script), {}), (plain.word, plain.calling))
        self.assertEqual(plain.word, "done")
        outer = ("until", 1, (4,), (("until", 1, (3,), (("call", "pb"),)), ("call", "bp")))
        plain = PlainRun(Program(still, (("call", "b"), outer)), {})
        self.assertEqual(run(Program(still, (("call", "b"), outer)), {}), (plain.word, plain.calling))

    def test_endless_inside(self):
        # The outer until is asked at the same head, behind inner ones that were asked and left.
        inner = ("until", 2, (3,), (("call", "p"),))
        outer = ("until", 2, (1,), (inner, ("call", "b")))
        self.assertEqual(run(Program(LITTLE, (outer,)), {}), ("endless", "ppbb"))

    def test_number_of_leads(self):
        def program(*others):
            # Behind the plain lead bobs bring the same head again and again.
            return Program(STILL, (("call", "p"), ("repeat", "k", (("repeat", "n", (("call", "b"),)),))) + others)

        values = {"k": 57, "n": 7}
        self.assertEqual(run(program(), values), ("done", "p" + "b" * 399))
        self.assertEqual(run(program(("repeat", 7, ()), ("until", 1, (1,), ())), values), ("done", "p" + "b" * 399))
        # Behind 400 leads it can still be asked, and the run be endless.
        self.assertEqual(run(program(("until", 1, (3,), ())), values), ("endless", "p" + "b" * 399))
        self.raises(TooMany, ["lead"], run, program(("call", "p")), values)
        self.raises(TooMany, ["lead"], run, program(("until", 1, (3,), (("call", "b"),))), values)
        self.raises(TooMany, ["lead"], run, program(), {"k": 40, "n": 10})
        self.raises(TooMany, ["lead"], run, program(), {"k": 99, "n": 99})
        self.assertEqual(run(program(("call", "p")), {"k": 1, "n": 98}), ("round", "p" + "b" * 98 + "p"))
        self.assertEqual(run(program(("call", "p")), {"k": 2, "n": 199 // 2}), ("round", "p" + "b" * 198 + "p"))

    def test_rounds_behind_just_400_leads(self):
        body = (("repeat", "k", (("repeat", 2, (("call", "b"),)),)), ("repeat", "n", (("call", "bb"),)), ("call", "p"))
        values = {"k": 99, "n": 99}
        self.assertEqual(run(Program(STILL, (("call", "p"),) + body), values), ("round", "p" + "b" * 396 + "p"))
        self.assertEqual(run(Program(STILL, (("call", "pbb"),) + body), values), ("round", "p" + "b" * 398 + "p"))
        self.raises(TooMany, ["lead"], run, Program(STILL, (("call", "pbbb"),) + body), values)

    def test_many_passes_without_leads(self):
        script = (("until", 1, (1,), ()),)
        for name in "abcde":
            script = (("repeat", name, script),)
        values = {name: 99 for name in "abcde"}
        self.assertEqual(run(Program(LITTLE, script), values), ("done", ""))
        self.assertEqual(run(Program(LITTLE, (("call", "p"),) + script + (("call", "pp"),)), values), ("round", "ppp"))

    def test_values(self):
        program = Program(LITTLE, (("repeat", "zz", (("repeat", "a", (("call", "p"),)),)), ("repeat", "k", ())))
        for worth in (0, 99):
            self.assertEqual(run(program, {"zz": 1, "a": 0, "k": worth}), ("done", ""))
        for worth in (-1, 100, True, None, "1", (1,), 10 ** 39):
            self.raises(BadValue, ["a"], run, program, {"zz": 1, "a": worth, "k": worth})
        self.raises(BadValue, ["zz"], run, program, {})
        self.raises(BadValue, ["zz"], run, program, {"k": 100, "a": 100, "other": 1})
        self.raises(BadValue, ["k"], run, program, {"other": 1, "a": 1, "zz": 1})
        self.raises(Unknown, ["other"], run, program, {"other": 1, "a": 1, "last": 1, "zz": 1, "k": 1})
        self.raises(Unknown, ["K"], run, program, {"a": 1, "zz": 1, "k": 1, "K": None})
        self.raises(Unknown, [5], run, program, {"a": 1, "zz": 1, "k": 1, 5: 1})
        self.raises(Unknown, ["k"], run, Program(LITTLE, (("call", "p"),)), {"k": 1})

    def test_values_stay(self):
        program = Program(LITTLE, (("repeat", "k", (("call", "p"),)),))
        values = {"k": 2}
        self.assertEqual(run(program, values), ("done", "pp"))
        self.assertEqual(values, {"k": 2})
        values["k"] = 1
        self.assertEqual(run(program, values), ("done", "p"))


if __name__ == "__main__":
    unittest.main()
