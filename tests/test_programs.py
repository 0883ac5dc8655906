"""Promise 25: programs, their scripts and statements."""

import unittest

from tests.asserts import TouchCase
from tests.progsamples import some_program
from tests.samples import LITTLE, listed, spoil
from truetouch.errors import BadStatement, TooLong, Twice
from truetouch.methods import Method
from truetouch.programs import Program

CALL = ("call", "p")


def nested(depth, inner=CALL):
    """The statement within so many bodies besides the script."""
    body = (inner,)
    for at in range(depth):
        body = ((("repeat", 2, body),), (("until", 1, (2,), body),), (("if", 1, (2,), body, ()),),
                (("if", 1, (2,), (), body),))[at % 4]
    return body


def written(body):
    for statement in body:
        yield statement
        for part in statement[2:]:
            if part and isinstance(part[0], tuple):
                yield from written(part)


class Programs(TouchCase):

    def test_attributes(self):
        script = (("repeat", "k", (("call", "pb"), ("if", 2, (1, 4), (("call", "s"),), (CALL,)))), ("repeat", 0, ()), CALL)
        program = Program(LITTLE, script)
        self.assertEqual((program.method, program.script), (LITTLE, script))
        self.assertEqual(len(program), 7)
        self.assertEqual(program.variables, ("k",))

    def test_statements_in_order(self):
        inner = ("if", 2, (1, 4), (("call", "s"),), (CALL, ("call", "b")))
        outer = ("repeat", "k", (("call", "pb"), inner))
        last = ("until", 3, (1,), (("repeat", 7, ()),))
        program = Program(LITTLE, (outer, last))
        wanted = (outer, ("call", "pb"), inner, ("call", "s"), CALL, ("call", "b"), last, ("repeat", 7, ()))
        self.assertEqual(tuple(program.statements()), wanted)
        self.assertEqual(len(program), 8)
        self.assertEqual(tuple(program.statements()), wanted)
        for seed in range(60):
            program = some_program(seed)
            self.assertEqual(tuple(program.statements()), tuple(written(program.script)))
            self.assertEqual(len(program), len(tuple(written(program.script))))

    def test_variables(self):
        script = (("repeat", "zz", (("repeat", 3, (("repeat", "a", ()),)),)), ("if", 1, (1,), (("repeat", "k", ()),), (
            ("repeat", "abcdefgh", ()),)), ("repeat", 99, ()))
        self.assertEqual(Program(LITTLE, script).variables, ("zz", "a", "k", "abcdefgh"))
        self.assertEqual(Program(LITTLE, (CALL,)).variables, ())

    def test_empty_script(self):
        program = Program(LITTLE, ())
        self.assertEqual((program.script, len(program), program.variables, list(program.statements())), ((), 0, (), []))

    def test_good_statements(self):
        for statement in (("call", "p"), ("call", "pbs" * 13 + "p"), ("repeat", 0, ()), ("repeat", 99, (CALL,)),
                          ("repeat", "abcdefgh", ()), ("repeat", "a", ()), ("until", 1, (1,), ()),
                          ("until", 4, (1, 2, 3, 4), (CALL,)), ("if", 4, (4,), (), ()), ("if", 1, (1, 3), (CALL,), (CALL,)),
                          ["if", 1, [1, 3], [["call", "p"]], []]):
            self.assertEqual(Program(LITTLE, (CALL, statement)).script[0], CALL)
            self.assertEqual(Program(LITTLE, [statement]), Program(LITTLE, (statement,)))

    def test_bad_statements(self):
        for statement in (None, "call", (), ("call",), ("call", ""), ("call", "p" * 41), ("call", "px"), ("call", "a"),
                          ("call", None), ("call", ("p",)), ("call", "p", ()), ("Call", "p"), ("ring", "p"), (None, "p"),
                          ("repeat", 100, ()), ("repeat", -1, ()), ("repeat", True, ()), ("repeat", "", ()),
                          ("repeat", "abcdefghi", ()), ("repeat", "K", ()), ("repeat", "k1", ()), ("repeat", None, ()),
                          ("repeat", "k"), ("repeat", "k", None), ("repeat", "k", "call"), ("repeat", "k", (), ()),
                          ("repeat", ("k",), ()), ("until", 0, (1,), ()), ("until", 5, (1,), ()),
                          ("until", True, (1,), ()), ("until", 1, (), ()), ("until", 1, (0,), ()), ("until", 1, (5,), ()),
                          ("until", 1, (2, 1), ()), ("until", 1, (1, 1), ()), ("until", 1, (True,), ()),
                          ("until", 1, 1, ()), ("until", 1, "1", ()), ("until", 1, (1,)), ("until", 1, (1,), (), ()),
                          ("until", 1, (1,), None), ("if", 1, (1,), ()), ("if", 1, (1,), (), None), ("if", 1, (1,), 0, ()),
                          ("if", 5, (1,), (), ()), ("if", 1, (), (), ()), ("if", 1, (1,), (), (), ()),
                          ("call", 1, (1,), (), ()), ("end",), 7, ("repeat", 1, {}), ("if", "1", (1,), (), ())):
            self.raises(BadStatement, [0], Program, LITTLE, (statement, None))
            self.raises(BadStatement, [1], Program, LITTLE, (CALL, statement, None))
            self.raises(BadStatement, [4], Program, LITTLE, (CALL, ("if", 1, (1,), (CALL,), (CALL, statement)), None))
        for script in (None, "call", 3, {}):
            self.raises(BadStatement, [-1], Program, LITTLE, script)

    def test_a_statement_is_judged_ahead_of_those_in_its_bodies(self):
        self.raises(BadStatement, [0], Program, LITTLE, (("repeat", 100, (None,)), None))
        self.raises(BadStatement, [1], Program, LITTLE, (("repeat", 9, (None,)), None))
        self.raises(BadStatement, [2], Program, LITTLE, (("repeat", 9, (CALL,)), None))
        self.raises(BadStatement, [2], Program, LITTLE, (("if", 1, (1,), (CALL,), (None,)), None))

    def test_depth(self):
        for depth in range(6):
            self.assertEqual(len(Program(LITTLE, nested(depth))), depth + 1)
        self.raises(BadStatement, [6], Program, LITTLE, nested(6))
        self.raises(BadStatement, [6], Program, LITTLE, nested(6, None))
        self.raises(BadStatement, [6], Program, LITTLE, nested(9))
        self.raises(BadStatement, [8], Program, LITTLE, (CALL, CALL) + nested(6))
        # A body within five others can be empty.
        self.assertEqual(len(Program(LITTLE, nested(5, ("repeat", 1, ())))), 6)
        self.raises(BadStatement, [6], Program, LITTLE, nested(5, ("repeat", 1, (CALL,))))

    def test_number_of_statements(self):
        self.assertEqual(len(Program(LITTLE, (CALL,) * 40)), 40)
        self.raises(TooLong, [41], Program, LITTLE, (CALL,) * 41)
        body = (("repeat", 2, (CALL,) * 19), ("if", 1, (1,), (CALL,) * 9, (CALL,) * 9), CALL)
        self.assertEqual(len(Program(LITTLE, body)), 40)
        self.raises(TooLong, [41], Program, LITTLE, body + (CALL,))
        self.raises(BadStatement, [41], Program, LITTLE, (CALL,) * 41 + (None,))
        variable = ("repeat", "k", ())
        self.raises(TooLong, [42], Program, LITTLE, (variable, variable) + (CALL,) * 40)

    def test_variable_twice(self):
        one, two = ("repeat", "k", ()), ("repeat", "n", ())
        self.raises(Twice, ["k"], Program, LITTLE, (one, two, one, two))
        self.raises(Twice, ["k"], Program, LITTLE, (("repeat", "k", (one,)),))
        self.raises(Twice, ["n"], Program, LITTLE, (one, ("if", 1, (1,), (two,), (two,)), one))
        self.raises(BadStatement, [2], Program, LITTLE, (one, one, None))

    def test_lists(self):
        script = (("repeat", "k", (("call", "pb"), ("if", 2, (1, 4), (("call", "s"),), ()))),)
        told = listed(script)
        program = Program(LITTLE, told)
        self.assertEqual(told, listed(script))
        spoil(told)
        self.assertEqual(program.script, script)
        self.assertEqual(tuple(program.statements()), (script[0],) + script[0][2] + (("call", "s"),))
        self.assertEqual(program, Program(LITTLE, script))

    def test_equal(self):
        program = Program(LITTLE, (CALL,))
        self.assertTrue(program == Program(Method(4, LITTLE.plain, LITTLE.calls), [["call", "p"]]))
        self.assertFalse(program == Program(LITTLE, (CALL, CALL)))
        self.assertFalse(program == Program(Method(4, LITTLE.plain), (CALL,)))
        for thing in (None, (CALL,), LITTLE):
            self.assertIs(program == thing, False)


if __name__ == "__main__":
    unittest.main()
