"""Promise 26, with 8: the lines of a program."""

import unittest

from tests.asserts import TouchCase
from tests.progsamples import some_program
from tests.samples import LITTLE, listed
from truetouch.calltext import fold_calling
from truetouch.errors import BadLine, BadStatement, BadText, TooLong, Twice
from truetouch.programs import Program
from truetouch.progtext import read_program, write_program

EXAMPLE = ("repeat k", "call 2pb", "end", "until 2 12", "call p", "end")
SCRIPT = (("repeat", "k", (("call", "ppb"),)), ("until", 2, (1, 2), (("call", "p"),)))


def plain_lines(body):
    for word, *told in body:
        if word == "call":
            yield "call " + fold_calling(told[0])
            continue
        if word == "repeat":
            yield f"repeat {told[0]}"
        else:
            yield f"{word} {told[0]} {''.join(map(str, told[1]))}"
        bodies = [part for part in told if isinstance(part, tuple) and (not part or isinstance(part[0], tuple))]
        yield from plain_lines(bodies[0])
        if word == "if" and bodies[1]:
            yield "else"
            yield from plain_lines(bodies[1])
        yield "end"


class ProgramLines(TouchCase):

    def test_example(self):
        program = read_program(LITTLE, EXAMPLE)
        self.assertEqual(program, Program(LITTLE, SCRIPT))
        self.assertEqual(read_program(LITTLE, list(EXAMPLE)), program)
        self.assertEqual(write_program(program), EXAMPLE)

    def test_written_and_read(self):
        told = set()
        for seed in range(200):
            program = some_program(seed, 3)
            lines = write_program(program)
            self.assertEqual(lines, tuple(plain_lines(program.script)))
            self.assertEqual(read_program(program.method, lines), program)
            self.assertEqual(read_program(program.method, list(lines)), program)
            told.update(line.split(" ")[0] for line in lines)
        self.assertEqual(told, {"call", "repeat", "until", "if", "else", "end"})

    def test_if(self):
        for lines, statement in [
                (("if 1 13", "end"), ("if", 1, (1, 3), (), ())),
                (("if 1 13", "call p", "end"), ("if", 1, (1, 3), (("call", "p"),), ())),
                (("if 1 13", "else", "call p", "end"), ("if", 1, (1, 3), (), (("call", "p"),))),
                (("if 1 13", "call b", "else", "call p", "call s", "end"),
                 ("if", 1, (1, 3), (("call", "b"),), (("call", "p"), ("call", "s"))))]:
            self.assertEqual(read_program(LITTLE, lines).script, (statement,))
            self.assertEqual(write_program(Program(LITTLE, (statement,))), lines)

    def test_no_lines(self):
        self.assertEqual(read_program(LITTLE, ()), Program(LITTLE, ()))
        self.assertEqual(read_program(LITTLE, []), Program(LITTLE, ()))
        self.assertEqual(write_program(Program(LITTLE, ())), ())

    def test_counts_and_names(self):
        for word, count in [("0", 0), ("7", 7), ("99", 99), ("k", "k"), ("end", "end"), ("abcdefgh", "abcdefgh"),
                            ("call", "call")]:
            program = read_program(LITTLE, (f"repeat {word}", "end"))
            self.assertEqual(program.script, (("repeat", count, ()),))
            self.assertEqual(write_program(program), (f"repeat {word}", "end"))
        for word in ("100", "00", "01", "-1", "+1", "K", "k1", "1k", "abcdefghi", "", "k-", "?"):
            self.raises(BadLine, [1, 1], read_program, LITTLE, ("call p", f"repeat {word}", "?"))

    def test_bad_words(self):
        for line, word in [("", 0), (" ", 0), ("Call p", 0), ("p", 0), (None, 0), (["call", "p"], 0), ("end", 0), ("else", 0),
                           (" call p", 0), ("call", 1), ("call ", 1), ("call P", 1), ("call 1p", 1), ("call 2", 1),
                           ("call p ", 2), ("call p p", 2), ("call  p", 1), ("repeat", 1), ("repeat ", 1),
                           ("repeat 2 2", 2), ("repeat k ", 2), ("until", 1), ("until 0 1", 1), ("until 9 1", 1),
                           ("until x 1", 1), ("until 1", 2), ("until 1 ", 2), ("until 1 0", 2), ("until 1 9", 2),
                           ("until 1 21", 2), ("until 1 11", 2), ("until 1 x", 2), ("until 1 1 ", 3), ("until 1 1 1", 3),
                           ("if", 1), ("if 0 1", 1), ("if 01 1", 1), ("if 1", 2), ("if 1 1x", 2), ("if 1 1 1", 3)]:
            self.raises(BadLine, [0, word], read_program, LITTLE, (line,))
            self.raises(BadLine, [2, word], read_program, LITTLE, ("call p", "call b", line, "?"))
        for line, word in [("end ", 1), ("end end", 1), ("else ", 1), ("else 1", 1), ("End", 0)]:
            self.raises(BadLine, [2, word], read_program, LITTLE, ("if 1 1", "call p", line, "?"))

    def test_lines_that_cannot_come(self):
        for lines, line in [(("repeat 2", "else"), 1), (("until 1 1", "call p", "else"), 2), (("end",), 0),
                            (("repeat 2", "end", "end"), 2), (("if 1 1", "else", "end"), 2),
                            (("if 1 1", "call p", "else", "end"), 3), (("if 1 1", "else", "else"), 2),
                            (("if 1 1", "else", "call p", "else"), 3), (("if 1 1", "repeat 2", "else"), 2),
                            (("if 1 1", "else", "repeat 2", "else"), 3), (("call p", "else"), 1),
                            (("if 1 1", "if 1 1", "else", "end"), 3)]:
            self.raises(BadLine, [line, 0], read_program, LITTLE, lines)
            self.raises(BadLine, [line, 0], read_program, LITTLE, lines + ("call p", "?"))

    def test_lines_that_end_too_early(self):
        for lines in (("repeat 2",), ("repeat 2", "call p"), ("if 1 1",), ("if 1 1", "else"), ("if 1 1", "else", "call p"),
                      ("until 1 1", "repeat 2", "end"), ("call p", "until 1 1")):
            self.raises(BadLine, [len(lines), 0], read_program, LITTLE, lines)
        self.raises(BadLine, [100, 0], read_program, LITTLE, ("repeat 1",) * 100)

    def test_calling_texts(self):
        error = self.raises(BadLine, [0, 1], read_program, LITTLE, ("call 2(p",))
        self.assertIsInstance(error.__cause__, BadText)
        error = self.raises(BadLine, [0, 1], read_program, LITTLE, ("call 99(99p)", "?"))
        self.assertIsInstance(error.__cause__, TooLong)
        self.assertEqual(read_program(LITTLE, ("call 20(pb)",)).script, (("call", "pb" * 20),))
        self.assertEqual(read_program(LITTLE, ("call 2b2p",)).script, (("call", "bbpp"),))

    def test_the_object_is_judged_when_all_lines_are_read(self):
        for lines in (("call a",), ("call 41p",), ("call -",), ("until 5 1", "end"), ("until 1 5", "end"), ("if 8 1", "end"),
                      ("if 1 45", "end")):
            self.raises(BadStatement, [0], read_program, LITTLE, lines)
            self.raises(BadStatement, [2], read_program, LITTLE, ("repeat 2", "call p") + lines + ("end",))
            self.raises(BadLine, [len(lines), 0], read_program, LITTLE, lines + ("?",))
        self.raises(TooLong, [41], read_program, LITTLE, ("call p",) * 41)
        self.raises(Twice, ["k"], read_program, LITTLE, ("repeat k", "end") * 2)
        self.raises(BadStatement, [6], read_program, LITTLE, ("repeat 2",) * 7 + ("end",) * 7)
        self.raises(BadStatement, [6], read_program, LITTLE, ("repeat 2",) * 100 + ("end",) * 100)
        self.assertEqual(len(read_program(LITTLE, ("repeat 2",) * 6 + ("end",) * 6)), 6)

    def test_lines_stay(self):
        lines = list(EXAMPLE)
        program = read_program(LITTLE, lines)
        self.assertEqual(lines, list(EXAMPLE))
        lines.clear()
        self.assertEqual(program.script, SCRIPT)
        self.assertEqual(Program(LITTLE, listed(SCRIPT)), program)


if __name__ == "__main__":
    unittest.main()
