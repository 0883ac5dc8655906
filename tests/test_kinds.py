"""Promise 28: kinds of values, lags and periods."""

import itertools
import unittest

from tests.asserts import TouchCase
from tests.progsamples import PlainRun, some_program
from tests.samples import LITTLE, SEVEN, SIX, THREE
from truetouch.errors import TooMany
from truetouch.heads import Heads
from truetouch.kinds import kinds
from truetouch.methods import Method
from truetouch.programs import Program

# All rows of five bells are heads.
ALL_FIVE = Method(5, ((5,), (1,)), (("b", 0, ((1, 2, 3),)), ("s", 1, ((1, 4, 5),))))

SIZE_5 = (("call", "sssss"),)
SIZE_9 = (("call", "bbpbb"),)
SIZE_10 = (("call", "p"),)
SIZE_56 = (("call", "pb"), ("if", 1, (2, 3), (("until", 3, (3, 4), (("call", "bpb"),)),), ()))


class Pass(PlainRun):
    """One pass of a body from a head."""

    def __init__(self, method, body, values, head):
        self.start = head
        PlainRun.__init__(self, Program(method, ()), values)
        self.row = head
        self.told = head
        try:
            self.body(body)
            self.told = self.row
        except Exception as ended:
            self.told = str(ended)


def repeats(body):
    """The repeats with variables, each with those in its body."""
    for statement in body:
        inner = [part for part in statement[2:] if isinstance(part, tuple) and (not part or isinstance(part[0], tuple))]
        if statement[0] == "repeat" and isinstance(statement[1], str):
            yield statement[1], statement[2]
        for part in inner:
            yield from repeats(part)


def passes(method, body, values, most):
    """For each number of passes what they do at all heads, as one tuple."""
    heads = list(Heads(method))
    once = {head: Pass(method, body, values, head).told for head in heads}
    for word in ("round", "endless", "many"):
        once[word] = word
    level = tuple(heads)
    told = [level]
    for _ in range(most):
        level = tuple(once[at] for at in level)
        told.append(level)
    return told


def number_of(told):
    many = 1
    for _, lag, period in told:
        many *= lag + period
    return many


class Kinds(TouchCase):

    def check(self, program):
        """Lags and periods hold for all kinds of the values inside, and no lesser ones do."""
        told = kinds(program)
        self.assertEqual(tuple(name for name, _, _ in told), program.variables)
        sizes = {name: (lag, period) for name, lag, period in told}
        for name, body in repeats(program.script):
            lag, period = sizes[name]
            inner = [name for name, _ in repeats(body)]
            most = lag + 2 * period + 3
            runs = [passes(program.method, body, dict(zip(inner, row)), most)
                    for row in itertools.product(*[range(sum(sizes[other]) + 1) for other in inner])]
            for run in runs:
                for number in range(lag, most - period + 1):
                    self.assertEqual(run[number], run[number + period])
            if lag > 0:
                self.assertTrue(any(run[lag - 1] != run[lag - 1 + period] for run in runs))
            for lesser in range(1, period):
                self.assertTrue(any(run[lag] != run[lag + lesser] for run in runs))
        return told

    def test_against_passes_at_all_heads(self):
        seen = set()
        nested = 0
        for seed in range(300):
            program = some_program(seed, 1 + seed % 3)
            if not program.variables or len(Heads(program.method)) > 24:
                continue
            told = self.check(program)
            seen.update((lag, period) for _, lag, period in told)
            nested += any(list(repeats(body)) for _, body in repeats(program.script))
        self.assertGreater(len(seen), 10)
        self.assertGreater(nested, 10)

    def test_hand_made(self):
        def of(*body, method=LITTLE):
            return kinds(Program(method, (("repeat", "k", body),)))

        # Nothing is done in a pass without leads, however often.
        self.assertEqual(of(), (("k", 0, 1),))
        self.assertEqual(of(("repeat", 3, ()), ("until", 1, (1,), ())), (("k", 0, 1),))
        # The heads from which plain leads never come to rounds follow one another in threes.
        self.assertEqual(of(("call", "p")), (("k", 3, 3),))
        self.assertEqual(len(Heads(LITTLE)), 6)
        # Where plain leads lead to all heads, all come home.
        plain = Method(4, LITTLE.plain)
        self.assertEqual(of(("call", "p"), method=plain), (("k", 3, 1),))
        # The first pass makes all heads endless, or all that are not at once left.
        self.assertEqual(of(("until", 1, (4,), ())), (("k", 1, 1),))
        self.assertEqual(of(("until", 2, (2,), ())), (("k", 1, 1),))
        self.assertEqual(kinds(Program(LITTLE, ())), ())

    def test_rounds_that_is_not_left_is_not_home(self):
        # At rounds nothing is called, and from all other heads a plain lead is.
        plain = Method(4, LITTLE.plain)
        body = (("if", 2, (2,), (), (("call", "p"),)),)
        self.assertEqual(kinds(Program(plain, (("repeat", "k", body),))), (("k", 2, 1),))

    def test_variables_inside(self):
        script = (("repeat", "k", (("call", "p"), ("repeat", "n", (("call", "s"),)))), ("repeat", "z", (("call", "s"),)))
        told = self.check(Program(LITTLE, script))
        self.assertEqual([name for name, _, _ in told], ["k", "n", "z"])
        self.assertEqual(told[1][1:], told[2][1:])

    def test_number_of_kinds(self):
        def of(*bodies):
            return Program(ALL_FIVE, tuple(("repeat", name, body) for name, body in zip("abc", bodies)))

        self.assertEqual(len(Heads(ALL_FIVE)), 120)
        for body, size in ((SIZE_5, 5), (SIZE_9, 9), (SIZE_10, 10), (SIZE_56, 56)):
            self.assertEqual(number_of(kinds(of(body))), size)
        self.check(of(SIZE_5))
        self.check(of(SIZE_9))
        self.assertEqual(number_of(kinds(of(SIZE_5, SIZE_10, SIZE_10))), 500)
        self.assertEqual(number_of(kinds(of(SIZE_9, SIZE_5, SIZE_10))), 450)
        self.raises(TooMany, ["value"], kinds, of(SIZE_9, SIZE_56))
        self.raises(TooMany, ["value"], kinds, of(SIZE_10, SIZE_10, SIZE_9))

    def test_number_of_heads(self):
        self.assertEqual(len(Heads(SIX)), 720)
        self.assertEqual(kinds(Program(SIX, (("repeat", "k", (("call", "p"),)),))), (("k", 2, 2),))
        many = tuple(("repeat", "abcdefgh"[:at], (("call", "pb"),)) for at in range(1, 9))
        self.raises(TooMany, ["value"], kinds, Program(SIX, many))
        self.raises(TooMany, ["head"], kinds, Program(SEVEN, many))
        self.raises(TooMany, ["head"], kinds, Program(SEVEN, ()))

    def test_samples(self):
        self.check(Program(THREE, (("repeat", "k", (("repeat", "n", (("repeat", "x", (("call", "pb"),)),)),)),)))


if __name__ == "__main__":
    unittest.main()
