"""Promise 29: sound runs and programs."""

import random
import unittest

from tests.asserts import TouchCase
from tests.progsamples import NAMES, Ended, PlainRun, all_values, some_script
from tests.samples import LITTLE, SEVEN, SIX, repeat_of, rung, some_method
from tests.test_kinds import ALL_FIVE
from truetouch.errors import TooMany
from truetouch.heads import Heads
from truetouch.methods import Method
from truetouch.programs import Program
from truetouch.runs import run
from truetouch.soundness import Soundness

# All rows of four bells are heads, and each lead rings its head alone.
ALL_FOUR = Method(4, ((),), (("b", 0, ((1, 4),)), ("s", 0, ((1, 2),))))


class SoundRun(PlainRun):
    """A run that looks for rows rung twice behind each lead."""

    def lead(self, letter):
        self.calling += letter
        self.row = rung(self.method, letter, self.row)[1][-1]
        self.spots = repeat_of(rung(self.method, self.calling)[0])
        if self.spots:
            raise Ended("false")
        if self.row == self.rounds:
            raise Ended("round")

    def told(self):
        return self.word, self.calling, self.spots if self.word == "false" else None


def plain_breach(program, cap):
    for values in all_values(program.variables, cap):
        told = SoundRun(program, values).told()
        if told[0] != "round":
            return (tuple(values.values()),) + told
    return None


def some_programs():
    for seed in range(400):
        chance = random.Random(seed)
        method = some_method(seed)
        many = len(Heads(method))
        names = list(NAMES[:3])
        while (many + 2) ** len(names) > 700:
            names.pop()
        yield Program(method, some_script(chance, method, names)), many + 1


def crossing(place, stage=6):
    """The lead of one change in which the bells in this place and the next one cross."""
    return (tuple(kept for kept in range(1, stage + 1) if kept not in (place, place + 1)),)


def all_crossings(stage):
    """The places of the crossings that lead through all rows and back: the last bell hunts down and up again."""
    if stage == 2:
        return [1, 1]
    found = []
    for number, place in enumerate(all_crossings(stage - 1)):
        hunt = list(range(1, stage))
        found += (hunt[::-1] if number % 2 == 0 else hunt) + [place + 1 if number % 2 == 0 else place]
    return found


class Sound(TouchCase):

    def test_against_plain_runs(self):
        told = []
        for program, cap in some_programs():
            verdict = Soundness(program)
            self.assertEqual((verdict.program, verdict.cap), (program, cap))
            wanted = plain_breach(program, cap)
            self.assertEqual(verdict.breach, wanted)
            self.assertIs(bool(verdict), wanted is None)
            told.append(wanted[1] if wanted else "sound")
        for word in ("sound", "false", "done", "endless"):
            self.assertGreater(told.count(word), 5, word)

    def test_greater_values_do_the_same(self):
        chance = random.Random(15)
        many = 0
        for program, cap in some_programs():
            for _ in range(3 if program.variables else 0):
                values = {name: chance.choice((cap, cap + 1, cap + 9, 0, 1)) for name in program.variables}
                capped = {name: min(worth, cap) for name, worth in values.items()}
                told = [SoundRun(program, one).told() for one in (values, capped)]
                self.assertEqual(told[0], told[1])
                if Soundness(program):
                    self.assertEqual(told[0][0], "round")
                many += values != capped
        self.assertGreater(many, 50)

    def test_hand_made(self):
        def breach(*script, method=LITTLE):
            return Soundness(Program(method, script)).breach

        self.assertIsNone(breach(("call", "ppp")))
        self.assertIsNone(breach(("call", "pppppp")))
        self.assertEqual(breach(), ((), "done", "", None))
        self.assertEqual(breach(("call", "p")), ((), "done", "p", None))
        self.assertEqual(breach(("repeat", "k", (("call", "p"),))), ((0,), "done", "", None))
        self.assertEqual(breach(("until", 2, (1,), ())), ((), "endless", "", None))
        self.assertEqual(breach(("call", "p"), ("until", 2, (1,), ())), ((), "endless", "p", None))

    def test_endless_ends_at_the_asking(self):
        # The bob brings the head back to where it was asked before; its rows would be rung again only behind this.
        method = Method(4, ((1, 2),), (("b", 0, ((1, 2, 3, 4),)),))
        program = Program(method, (("call", "p"), ("until", 3, (1,), (("call", "b"),))))
        self.assertEqual(Soundness(program).breach, ((), "endless", "pb", None))
        program = Program(method, (("call", "p"), ("until", 3, (1,), (("call", "bb"),))))
        self.assertEqual(Soundness(program).breach, ((), "false", "pbb", (1, 2)))

    def test_false_goes_ahead_of_all_that_comes_behind(self):
        # The last lead brings rounds, but has rung a row twice.
        method = Method(4, ((1, 2), (1, 2), (1, 2)), (("b", 0, ((3, 4), (3, 4), (3, 4))),))
        program = Program(method, (("call", "pp"),))
        self.assertEqual(Soundness(program).breach, ((), "false", "p", (0, 2)))
        once = Method(4, ((1, 2),), (("b", 0, ((1, 2, 3, 4),)),))
        program = Program(once, (("call", "pbbp"), ("until", 1, (4,), ())))
        self.assertEqual(Soundness(program).breach, ((), "false", "pbb", (1, 2)))
        # A lead that brings rounds while it rings a row for the second time.
        twice = Method(4, ((1, 2), (1, 2), (3, 4), (3, 4)), (("b", 3, ((1, 2, 3, 4),)),))
        self.assertEqual(Soundness(Program(twice, (("call", "p"),))).breach, ((), "false", "p", (0, 2)))

    def test_least_values(self):
        # Six leads of the short method come round; with more passes inside rows are rung again.
        script = (("repeat", "k", (("call", "b"),)), ("until", 1, (1,), (("call", "p"),)))
        program = Program(ALL_FOUR, script)
        self.assertEqual(Soundness(program).breach, plain_breach(program, 25))

    def test_cap_and_number_of_values(self):
        script = (("call", "pb"), ("repeat", "k", (("call", "pb"),)), ("repeat", "n", ()), ("call", "p" * 40))
        self.assertEqual(len(Heads(ALL_FOUR)), 24)
        program = Program(ALL_FOUR, script)
        verdict = Soundness(program)
        self.assertEqual(verdict.cap, 25)
        self.assertEqual(verdict.breach, plain_breach(program, 25))
        self.raises(TooMany, ["value"], Soundness, Program(ALL_FOUR, script + (("repeat", "x", ()),)))
        one = Program(ALL_FIVE, script[:1] + script[1:2])
        self.assertEqual(Soundness(one).cap, 121)
        self.raises(TooMany, ["value"], Soundness, Program(ALL_FIVE, script))
        three = Method(3, ((1,),), (("b", 0, ((3,),)),))
        self.assertEqual(Soundness(Program(three, script + (("repeat", "x", ()),))).cap, 7)
        # With eight heads three variables are too many, and so are four with four heads, but not with three.
        eight = Method(4, ((),), (("b", 0, ((1, 4),)),))
        four = Method(4, ((),), (("b", 0, ((1, 2),)),))
        turned = Method(3, ((1,), (3,)))
        nothing = (("repeat", "k", ()), ("repeat", "n", ()), ("repeat", "x", ()), ("repeat", "y", ()))
        for method, many, most in ((eight, 8, 2), (four, 4, 3), (turned, 3, 4)):
            self.assertEqual(len(Heads(method)), many)
            self.assertEqual(Soundness(Program(method, nothing[:most])).breach, ((0,) * most, "done", "", None))
            more = nothing[:most] + (("repeat", "z", ()),)
            self.raises(TooMany, ["value"], Soundness, Program(method, more))
        self.raises(TooMany, ["value"], Soundness, Program(three, script + (("repeat", "x", ()), ("repeat", "y", ()))))

    def test_number_of_heads(self):
        # 722 tuples of values are too many, and without variables there is one.
        self.raises(TooMany, ["value"], Soundness, Program(SIX, (("repeat", "k", ()),)))
        verdict = Soundness(Program(SIX, (("call", "p"),)))
        self.assertEqual((verdict.cap, verdict.breach), (721, ((), "done", "p", None)))
        self.raises(TooMany, ["head"], Soundness, Program(SEVEN, (("repeat", "k", ()), ("repeat", "n", ()))))
        self.raises(TooMany, ["head"], Soundness, Program(SEVEN, ()))

    def test_runs_of_more_than_400_leads(self):
        # A touch of six bells in which two neighbours cross at a time, and all 720 rows are rung.
        method = Method(6, crossing(1), tuple((letter, 0, crossing(at + 2)) for at, letter in enumerate("abcd")))
        calling = "".join("pabcd"[place - 1] for place in all_crossings(6))
        rows, heads = rung(method, calling)
        self.assertEqual((len(rows), len(set(rows)), heads[-1]), (720, 720, heads[0]))
        self.assertEqual(calling, calling[:240] * 3)
        body = tuple(("call", calling[at:at + 40]) for at in range(0, 240, 40))
        program = Program(method, (("repeat", 99, body),))
        verdict = Soundness(program)
        self.assertTrue(verdict)
        self.assertEqual((verdict.breach, verdict.cap), (None, 721))
        self.raises(TooMany, ["lead"], run, program, {})
        self.assertEqual(Soundness(Program(method, (("repeat", 2, body),))).breach, ((), "done", calling[:480], None))
        told = Soundness(Program(method, (("repeat", 2, body), ("call", "ppp")))).breach
        rows, _ = rung(method, calling[:480] + "ppp")
        self.assertEqual(told, ((), "false", calling[:480] + "p" * (repeat_of(rows)[1] - 479), repeat_of(rows)))

    def test_all_rows_of_five_bells_with_a_variable(self):
        method = Method(5, crossing(1, 5), tuple((letter, 0, crossing(at + 2, 5)) for at, letter in enumerate("abc")))
        calling = "".join("pabc"[place - 1] for place in all_crossings(5))
        body = (("repeat", "k", (("call", calling[:40]),)),)
        program = Program(method, body)
        self.assertEqual(Soundness(program).breach, ((0,), "done", "", None))
        program = Program(method, (("call", calling[:40]), ("call", calling[:40])) + body + (("call", calling[:40]),))
        self.assertEqual(Soundness(program).cap, 121)
        self.assertTrue(Soundness(program))

    def test_by_turns(self):
        programs = [program for program, _ in list(some_programs())[:20]]
        verdicts = [Soundness(program) for program in programs]
        for program, verdict in zip(programs, verdicts):
            self.assertEqual(verdict.breach, Soundness(program).breach)


if __name__ == "__main__":
    unittest.main()
