"""Promise 50, with 7, 8, 17 and 26: journals, whole and torn."""

import random
import unittest

from tests.asserts import TouchCase
from tests.booksamples import some_entries
from tests.progsamples import NAMES, some_script
from tests.samples import LITTLE, some_method
from truetouch.books import Book
from truetouch.calltext import fold_calling
from truetouch.errors import (BadCall, BadCalling, BadEntry, BadLine, BadStatement, BadText, InUse, TooLong, TooMany, Torn,
                              TouchError, Twice, Unknown)
from truetouch.journal import read_journal, taken_up, write_journal
from truetouch.methods import Method
from truetouch.programs import Program
from truetouch.tower import Tower

LINES = ("method m", "method 4 3(x.14).x.12", "call b 7 14", "call s 7 1234", "end",
         "touch t m 2p3b",
         "book b m", "entry 0 b 1 4 24", "entry 0 p 0 4 13", "entry 1 p 0", "end",
         "program p m", "repeat k", "call 2pb", "end", "until 2 12", "if 1 1", "call p", "else", "call s", "end", "end", "end",
         "strike t",
         "touch t m -",
         "program e m", "end",
         "book none m", "end",
         "method plain", "method 3 3.1", "end",
         "strike plain")
# The numbers of lines at which a deed begins, and at last that of all.
STARTS = (0, 5, 6, 11, 23, 24, 25, 27, 29, 32, 33)

SCRIPT = (("repeat", "k", (("call", "ppb"),)), ("until", 2, (1, 2), (("if", 1, (1,), (("call", "p"),), (("call", "s"),)),)))
ENTRIES = ((0, ((4, (2, 4)),), "b", 1), (0, ((4, (1, 3)),), "p", 0), (1, (), "p", 0))


def tower_of_lines():
    """The tower that is told by the lines, made deed by deed."""
    tower = Tower()
    tower.keep_method("m", LITTLE)
    tower.keep_touch("t", "m", "ppbbb")
    tower.keep_book("b", "m", Book(LITTLE, ENTRIES))
    tower.keep_program("p", "m", Program(LITTLE, SCRIPT))
    tower.strike("t")
    tower.keep_touch("t", "m", "")
    tower.keep_program("e", "m", Program(LITTLE, ()))
    tower.keep_book("none", "m", Book(LITTLE))
    tower.keep_method("plain", Method(3, ((3,), (1,))))
    tower.strike("plain")
    return tower


def some_tower(seed):
    """A tower by many deeds, some of which are refused."""
    chance = random.Random(seed)
    tower = Tower()
    methods = [some_method(seed + at) for at in range(3)]
    for _ in range(16):
        word = chance.choice(("method", "touch", "touch", "book", "program", "strike"))
        name, of = chance.choice("abcdef"), chance.choice("abc")
        method = tower[of] if of in tower and tower.method_of(of) is None else chance.choice(methods)
        try:
            if word == "method":
                tower.keep_method(chance.choice("abc"), chance.choice(methods))
            elif word == "touch":
                letters = [chance.choice(method.letters) for _ in range(chance.choice((0, 3, 12, 40, 41)))]
                tower.keep_touch(name, of, "".join(letters))
            elif word == "book":
                tower.keep_book(name, of, Book(method, some_entries(seed, method, chance.randint(0, 4))))
            elif word == "program":
                tower.keep_program(name, of, Program(method, some_script(chance, method, list(NAMES))))
            else:
                tower.strike(name)
        except TouchError:
            pass
    return tower


class Journals(TouchCase):

    def test_by_hand(self):
        self.assertEqual(write_journal(tower_of_lines()), LINES)
        tower = read_journal(LINES)
        self.assertTrue(tower == tower_of_lines())
        self.assertEqual((list(tower), tower.deeds), (["m", "b", "p", "t", "e", "none"], 10))
        self.assertTrue(read_journal(list(LINES)) == tower)

    def test_written_and_read_back(self):
        words = set()
        for seed in range(120):
            tower = some_tower(seed)
            lines = write_journal(tower)
            again = read_journal(lines)
            self.assertTrue(again == tower)
            self.assertEqual((list(again), [again[name] for name in again]), (list(tower), [tower[name] for name in tower]))
            self.assertEqual(write_journal(again), lines)
            self.assertEqual((taken_up(lines)[0] == tower, taken_up(lines)[1]), (True, len(lines)))
            words |= {line.split()[0] for line in lines}
        self.assertTrue({"method", "touch", "book", "program", "strike", "entry", "until", "if", "else"} <= words)

    def test_nothing(self):
        self.assertEqual(write_journal(Tower()), ())
        self.assertTrue(read_journal(()) == Tower())
        self.assertTrue(taken_up([])[0] == Tower())
        self.assertEqual(taken_up(())[1], 0)

    def test_callings_of_40_and_41_letters(self):
        tower = Tower()
        tower.keep_method("m", LITTLE)
        callings = ["p" * 40, "p" * 41, "pb" * 20, "pb" * 20 + "s", "b", "pbs" * 133]
        for name, calling in zip("abcdef", callings):
            tower.keep_touch(name, "m", calling)
        lines = write_journal(tower)
        self.assertEqual(lines[5:], ("touch a m 40p", "touch b m " + "p" * 41, "touch c m 20(pb)", "touch d m " + "pb" * 20 + "s",
                                     "touch e m b", "touch f m " + "pbs" * 133))
        self.assertTrue(read_journal(lines) == tower)
        for calling in callings:
            # Whatever calling text is read, the folded one is written.
            if len(calling) <= 40:
                self.assertEqual(write_journal(read_journal(lines[:5] + (f"touch z m {calling}",)))[5:],
                                 (f"touch z m {fold_calling(calling)}",))

    def test_cut_at_each_line(self):
        whole = tower_of_lines()
        for many in range(len(LINES) + 1):
            start = max(told for told in STARTS if told <= many)
            tower, taken = taken_up(LINES[:many])
            self.assertEqual(taken, start)
            self.assertTrue(tower == read_journal(LINES[:start]))
            self.assertEqual(tower.deeds, STARTS.index(start))
            if many == start:
                self.assertEqual(write_journal(read_journal(LINES[:many])), LINES[:many])
            else:
                error = self.raises(Torn, [start], read_journal, LINES[:many])
                self.assertEqual((type(error.__cause__), error.__cause__.line, error.__cause__.word), (BadLine, many, 0))
        self.assertTrue(taken_up(LINES)[0] == whole)

    def test_spoilt_at_each_line(self):
        for number, line in enumerate(LINES):
            start = max(told for told in STARTS if told <= number)
            words = line.split(" ")
            for spoilt, word in ((None, 0), ("", 0), ("x", 0), (" " + line, 0), (line + " ", len(words)), (line + " x", len(words)),
                                 (line.replace(" ", "  ", 1) if " " in line else line + "  ", 1),
                                 (line.upper(), 0), (3, 0), (("end",), 0)):
                if line.startswith("entry") and spoilt == line + " x":
                    word = len(words)
                lines = LINES[:number] + (spoilt,) + LINES[number + 1:]
                error = self.raises(Torn, [start], read_journal, lines)
                self.assertEqual((type(error.__cause__), error.__cause__.line, error.__cause__.word), (BadLine, number, word),
                                 (number, spoilt))
                tower, taken = taken_up(lines)
                self.assertEqual(taken, start)
                self.assertTrue(tower == read_journal(LINES[:start]))

    def torn(self, lines, start, kind, *told):
        """Asserts that the deed at this line is torn by such an error, and that all ahead of it is taken up."""
        for given in (tuple(lines), list(lines)):
            error = self.raises(Torn, [start], read_journal, given)
            self.assertIs(type(error.__cause__), kind, (lines, error.__cause__))
            self.assertEqual(list(vars(error.__cause__).values()), list(told))
            tower, taken = taken_up(given)
            self.assertEqual(taken, start)
            self.assertTrue(tower == read_journal(given[:start]))
        return error.__cause__

    def test_things_that_cannot_be_made(self):
        method = LINES[:5]
        self.torn(("method a", "method 4 x", "call b 0 14.14", "end"), 0, BadCall, 0)
        self.torn(("method a", "method 4 x", *[f"call {letter} 0 14" for letter in "abcdef"], "end"), 0, TooMany, "call")
        self.torn(("method a", "method 4 x", "call b 0 14", "call b 0 12", "end"), 0, Twice, "b")
        self.torn(method + ("book b m", "entry 0 p 0 5 1", "end"), 5, BadEntry, 0)
        self.torn(method + ("book b m", "entry 0 p 0", "entry 0 x 0", "end"), 5, BadEntry, 1)
        self.torn(method + ("book b m", *["entry 0 p 0"] * 61, "end"), 5, TooMany, "entry")
        self.torn(method + ("program p m", "call -", "end"), 5, BadStatement, 0)
        self.torn(method + ("program p m", "call x", "end"), 5, BadStatement, 0)
        self.torn(method + ("program p m", "until 5 1", "end", "end"), 5, BadStatement, 0)
        self.torn(method + ("program p m", *["call p"] * 41, "end"), 5, TooLong, 41)
        self.torn(method + ("program p m", "repeat k", "end", "repeat k", "end", "end"), 5, Twice, "k")
        self.torn(method + ("touch t m px",), 5, BadCalling, 1)

    def test_things_that_cannot_be_added_or_struck(self):
        lines = LINES[:11]
        self.torn(lines + ("method t", "method 3 1", "end"), 11, Twice, "t")
        self.torn(lines + ("touch t m p",), 11, Twice, "t")
        self.torn(lines + ("book b m", "end"), 11, Twice, "b")
        self.torn(lines + ("program b m", "end"), 11, Twice, "b")
        for of in ("x", "t", "b"):
            self.torn(lines + (f"touch new {of} p",), 11, Unknown, of)
            self.torn(lines + (f"book new {of}", "entry 0 x 0", "end"), 11, Unknown, of)
            self.torn(lines + (f"program new {of}", "call x", "end"), 11, Unknown, of)
            self.torn(lines + (f"touch t {of} p",), 11, Twice, "t")
            self.torn(lines + (f"book t {of}", "end"), 11, Twice, "t")
        self.torn(lines + ("strike new",), 11, Unknown, "new")
        self.torn(lines + ("strike m",), 11, InUse, "t")
        self.torn(lines + ("strike t", "strike m"), 12, InUse, "b")
        many = LINES[:5] + tuple(f"touch {letter}{other} m p" for letter in "abc" for other in "abcdefghij")
        self.assertEqual(len(taken_up(many)[0]), 30)
        self.torn(many, len(many) - 1, TooMany, "thing")

    def test_words_of_the_first_lines(self):
        method = LINES[:5]
        for line, word in (("method", 1), ("method m1", 1), ("method abcdefghi", 1), ("method M", 1), ("method a b", 2),
                           ("book b", 2), ("book", 1), ("book b 1", 2), ("book 1 b", 1), ("book b m x", 3), ("program p", 2),
                           ("touch t", 2), ("touch t m", 3), ("touch t m p p", 4), ("touch t m 1p", 3), ("touch t m ()", 3),
                           ("touch t m --", 3), ("touch t m 99(99p)", 3), ("touch t 1 p", 2), ("touch T m p", 1), ("strike", 1),
                           ("strike 1", 1), ("strike m x", 2), ("end", 0), ("entry 0 p 0", 0), ("call p", 0), ("keep m", 0),
                           ("Method m", 0), ("touch t m P", 3), ("strike ", 1)):
            self.torn(method + (line, "end"), 5, BadLine, 5, word)
        error = self.torn(method + ("touch t m 2(pb",), 5, BadLine, 5, 3)
        self.assertEqual((type(error.__cause__), error.__cause__.at), (BadText, 4))
        error = self.torn(method + ("touch t m 99(99p)",), 5, BadLine, 5, 3)
        self.assertEqual((type(error.__cause__), error.__cause__.number), (TooLong, 9801))
        error = self.torn(("method a", "method 4 x", "call b 0 16", "end"), 0, BadLine, 2, 3)
        self.assertEqual((type(error.__cause__), error.__cause__.at), (BadText, 0))

    def test_the_end_of_a_statement_and_of_a_thing(self):
        method = LINES[:5]
        program = ("program p m", "repeat 2", "until 1 1", "end", "if 2 3", "else", "call p", "end", "end")
        self.torn(method + program, 5, BadLine, 14, 0)
        tower = read_journal(method + program + ("end", "touch t m p"))
        inner = (("until", 1, (1,), ()), ("if", 2, (3,), (), (("call", "p"),)))
        self.assertEqual(tower["p"], Program(LITTLE, (("repeat", 2, inner),)))
        # One more end begins no deed.
        self.torn(method + program + ("end", "end"), 15, BadLine, 15, 0)
        # Neither does an else end anything, nor stand outside of an if, nor directly ahead of its end.
        self.torn(method + ("program p m", "else", "end"), 5, BadLine, 6, 0)
        self.torn(method + ("program p m", "if 1 1", "else", "end", "end"), 5, BadLine, 8, 0)
        self.torn(method + ("program p m", "call p", "end x"), 5, BadLine, 7, 1)
        self.torn(method + ("book b m", "entry 0 p 0", "end x"), 5, BadLine, 7, 1)
        self.torn(("method a", "method 3 1", "end x"), 0, BadLine, 2, 1)
        self.torn(("method a", "end"), 0, BadLine, 1, 0)
        self.torn(("method a", "method 3 1", "touch t a p"), 0, BadLine, 2, 0)
        self.torn(method + ("book b m", "call p", "end"), 5, BadLine, 6, 0)
        self.torn(method + ("program p m", "entry 0 p 0", "end"), 5, BadLine, 6, 0)

    def test_things_named_like_words(self):
        tower = Tower()
        tower.keep_method("end", LITTLE)
        tower.keep_touch("strike", "end", "pp")
        tower.keep_program("else", "end", Program(LITTLE, (("repeat", "end", (("call", "p"),)),)))
        tower.keep_book("method", "end", Book(LITTLE))
        lines = write_journal(tower)
        self.assertEqual(lines[5:], ("touch strike end 2p", "program else end", "repeat end", "call p", "end", "end",
                                     "book method end", "end"))
        self.assertTrue(read_journal(lines) == tower)

    def test_a_torn_journal_can_be_gone_on_with(self):
        for many in range(len(LINES)):
            tower, taken = taken_up(LINES[:many])
            self.assertTrue(read_journal(write_journal(tower) + LINES[taken:]) == tower_of_lines())

    def test_lines_stay_as_they_were(self):
        lines = list(LINES)
        tower, _ = taken_up(lines)
        self.assertEqual(lines, list(LINES))
        lines.clear()
        self.assertEqual(write_journal(tower), LINES)


if __name__ == "__main__":
    unittest.main()
