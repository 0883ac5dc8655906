"""Promise 28: the ends of a program for all values, however great."""

import itertools
import unittest

from tests.asserts import TouchCase
from tests.progsamples import PlainRun, all_values, some_program
from tests.samples import LITTLE, SEVEN, SIX
from tests.test_kinds import ALL_FIVE, SIZE_5, SIZE_9, SIZE_10, SIZE_56
from truetouch.allvalues import AllValues
from truetouch.errors import BadValue, TooMany, Unknown
from truetouch.heads import Heads
from truetouch.kinds import kinds
from truetouch.methods import Method
from truetouch.programs import Program
from truetouch.runs import run

ROUNDS = (1, 2, 3, 4)
HUGE = 10 ** 39


def plain_end(program, values):
    plain = PlainRun(program, values, 10 ** 5)
    return plain.word, {"round": plain.rounds, "endless": None, "done": plain.row}[plain.word]


def some_programs():
    for seed in range(250):
        program = some_program(seed, seed % 4)
        if len(Heads(program.method)) <= 24:
            many = 1
            for _, lag, period in kinds(program):
                many *= lag + period
            if many <= 60:
                yield program


class Ends(TouchCase):

    def test_table_against_runs(self):
        told = []
        for program in some_programs():
            values = AllValues(program)
            self.assertIs(values.program, program)
            sizes = [lag + period for _, lag, period in kinds(program)]
            rows = list(itertools.product(*[range(size) for size in sizes]))
            table = tuple((row,) + plain_end(program, dict(zip(program.variables, row))) for row in rows)
            self.assertEqual(values.table, table)
            self.assertEqual(list(values), list(table))
            self.assertEqual(len(values), len(table))
            self.assertIs(bool(values), all(word == "round" for _, word, _ in table))
            told += [word for _, word, _ in table]
        for word in ("round", "done", "endless"):
            self.assertGreater(told.count(word), 30)

    def test_ends_against_runs_above_the_lag(self):
        for program in some_programs():
            ends = AllValues(program)
            for values in all_values(program.variables, 17 if len(program.variables) < 2 else 9)[::1 + len(
                    program.variables) ** 2]:
                self.assertEqual(ends.end_of(values), plain_end(program, values))

    def test_lags_and_periods_that_do_not_go_together(self):
        for body in (SIZE_5, SIZE_9, SIZE_56):
            program = Program(ALL_FIVE, (("call", "b"), ("repeat", "k", body)))
            ends = AllValues(program)
            told = [plain_end(program, {"k": worth}) for worth in range(130)]
            self.assertEqual([ends.end_of({"k": worth}) for worth in range(130)], told)
            lag, period = kinds(program)[0][1:]
            self.assertEqual(ends.end_of({"k": lag + period * 10 ** 30 + 1}), told[lag + 1])
        # From a head from which plain leads never come to rounds they go round and round.
        program = Program(ALL_FIVE, (("call", "bsb"), ("repeat", "k", SIZE_10)))
        ends = AllValues(program)
        told = [plain_end(program, {"k": worth}) for worth in range(40)]
        self.assertEqual([ends.end_of({"k": worth}) for worth in range(40)], told)
        self.assertEqual(len(set(told)), 5)

    def test_great_values(self):
        great = 0
        for program in some_programs():
            ends = AllValues(program)
            for low in (0, 1, 5):
                values = {}
                alike = {}
                for at, (name, lag, period) in enumerate(kinds(program)):
                    values[name] = HUGE - at * 7 - low
                    alike[name] = values[name] if values[name] < lag else lag + (values[name] - lag) % period
                self.assertEqual(ends.end_of(values), plain_end(program, alike))
                great += len(values)
        self.assertGreater(great, 100)

    def test_ends_against_the_runs_of_the_program(self):
        for program in list(some_programs())[::3]:
            ends = AllValues(program)
            for values in all_values(program.variables, 3):
                try:
                    word, calling = run(program, values)
                except TooMany:
                    continue
                self.assertEqual(ends.end_of(values)[0], word)
                self.assertLessEqual(len(calling), 400)

    def test_least_values(self):
        told = set()
        for program in some_programs():
            ends = AllValues(program)
            wanted = next((tuple(values.values()) for values in all_values(program.variables, 9)
                           if plain_end(program, values)[0] != "round"), None)
            if wanted is None and ends.least_values is not None:
                self.assertGreater(max(ends.least_values), 9)
            else:
                self.assertEqual(ends.least_values, wanted)
            self.assertIs(bool(ends), ends.least_values is None)
            told.add(ends.least_values)
        self.assertGreater(len(told), 3)
        self.assertIn(None, told)

    def test_the_least_sum_goes_ahead(self):
        # Rounds comes unless singles are called an even number of times, at least two, or not at all.
        method = Method(4, ((1, 2),), (("s", 0, ((1, 4),)), ("b", 0, ((),))))
        for script in ((("repeat", "k", (("call", "s"),)), ("repeat", "n", (("call", "b"),)), ("call", "sb")),
                       (("call", "s"), ("repeat", "k", (("call", "bs"),)), ("repeat", "n", (("call", "bbs"),)), ("call", "s")),
                       (("call", "s"), ("repeat", "k", (("call", "bb"),)), ("repeat", "n", (("call", "bb"),)), ("call", "s"))):
            program = Program(method, script)
            ends = [values for values in all_values("kn", 9)
                    if plain_end(program, dict(zip(program.variables, values.values())))[0] != "round"]
            self.assertEqual(AllValues(program).least_values, tuple(ends[0].values()) if ends else None)
        plain = Method(4, LITTLE.plain)
        called = (("repeat", "k", (("call", "p"),)), ("repeat", "n", (("call", "p"),)))
        for behind, wanted in (("p", (0, 0)), ("pp", (0, 0)), ("ppp", None)):
            ends = AllValues(Program(plain, called + (("call", behind),)))
            self.assertEqual(ends.least_values, wanted)
        # With two passes in all the bells are not round, and of these the first as a tuple has none of k.
        doubled = (("if", 2, (3,), (("until", 1, (2,), ()),), ()),)
        ends = AllValues(Program(plain, called + doubled + (("call", "ppp"),)))
        self.assertEqual(ends.table[2], ((0, 2), "endless", None))
        self.assertEqual(ends.least_values, (0, 2))

    def test_without_variables(self):
        ends = AllValues(Program(LITTLE, (("call", "ppp"),)))
        self.assertEqual((ends.table, ends.least_values, bool(ends)), ((((), "round", ROUNDS),), None, True))
        self.assertEqual(ends.end_of({}), ("round", ROUNDS))
        ends = AllValues(Program(LITTLE, ()))
        self.assertEqual((ends.table, ends.least_values, bool(ends)), ((((), "done", ROUNDS),), (), False))
        ends = AllValues(Program(LITTLE, (("until", 1, (2,), (("call", "p"),)),)))
        self.assertEqual(ends.table, (((), "round", ROUNDS),))
        ends = AllValues(Program(LITTLE, (("until", 1, (2,), ()),)))
        self.assertEqual((ends.table, ends.least_values), ((((), "endless", None),), ()))

    def test_values(self):
        script = (("repeat", "zz", (("repeat", "a", (("call", "p"),)),)), ("repeat", "k", ()))
        ends = AllValues(Program(LITTLE, script))
        self.assertEqual(ends.end_of({"zz": 100, "a": 0, "k": HUGE}), ("done", ROUNDS))
        self.assertEqual(ends.end_of({"k": 0, "a": HUGE, "zz": HUGE}), ("round", ROUNDS))
        for worth in (-1, True, None, "1", (1,), -HUGE):
            self.raises(BadValue, ["a"], ends.end_of, {"zz": 1, "a": worth, "k": worth})
        self.raises(BadValue, ["zz"], ends.end_of, {"k": 1, "other": 1})
        self.raises(Unknown, ["other"], ends.end_of, {"other": 1, "k": 1, "a": 1, "zz": 1, "last": 1})
        values = {"zz": 1, "a": 1, "k": 1}
        self.assertEqual(ends.end_of(values), ("done", LITTLE.head("p")))
        self.assertEqual(values, {"zz": 1, "a": 1, "k": 1})

    def test_number_of_kinds(self):
        def of(*bodies):
            return Program(ALL_FIVE, tuple(("repeat", name, body) for name, body in zip("abc", bodies)))

        program = of(SIZE_5, SIZE_10, SIZE_10)
        ends = AllValues(program)
        self.assertEqual(len(ends.table), 500)
        for row, word, head in ends.table[::37]:
            self.assertEqual((word, head), plain_end(program, dict(zip("abc", row))))
        self.assertEqual(list(ends.table), sorted(ends.table, key=lambda told: told[0]))
        self.raises(TooMany, ["value"], AllValues, of(SIZE_9, SIZE_56))

    def test_number_of_heads(self):
        many = tuple(("repeat", "abcdefgh"[:at], (("call", "pb"),)) for at in range(1, 9))
        ends = AllValues(Program(SIX, (("call", "bs"), ("repeat", "k", (("call", "psb"),)), ("call", "p"))))
        for values in range(30):
            self.assertEqual(ends.end_of({"k": values}), plain_end(ends.program, {"k": values}))
        self.raises(TooMany, ["value"], AllValues, Program(SIX, many))
        self.raises(TooMany, ["head"], AllValues, Program(SEVEN, many))

    def test_by_turns(self):
        programs = list(some_programs())[:20]
        ends = [AllValues(program) for program in programs]
        for program, told in zip(programs, ends):
            alone = AllValues(program)
            self.assertEqual((told.table, told.least_values), (alone.table, alone.least_values))


if __name__ == "__main__":
    unittest.main()
