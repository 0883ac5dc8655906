"""Promise 1: what is passed as lists is taken for tuples, stays as it was, and is not held."""

import copy
import unittest

from tests.asserts import TouchCase
from tests.samples import LITTLE, listed, spoil
from truetouch.alike import RoundAlike, judge_round_pairs
from truetouch.allstarts import AllStarts, judge_starts
from truetouch.allvalues import AllValues
from truetouch.bands import Band
from truetouch.blind import Blind, judge_hopes
from truetouch.bookpairs import BookPair, judge_books
from truetouch.books import Book
from truetouch.canbooks import CanVerdict, judge_never
from truetouch.cheapest import Cheapest, judge_bounds
from truetouch.clashes import ClashAlike, judge_clashes
from truetouch.conductors import Conductor
from truetouch.exchanges import exchanged, exchanges
from truetouch.hearings import Hearing
from truetouch.intime import InTime, judge_intime, mend_in_time
from truetouch.keepsout import KeepsOut, judge_out
from truetouch.journal import read_journal, taken_up
from truetouch.means import Mean, judge_potentials
from truetouch.mends import Mends
from truetouch.methods import Method
from truetouch.outlooks import Outlook
from truetouch.practice import Practice, rehearsed
from truetouch.prices import Prices
from truetouch.programs import Program
from truetouch.roundbooks import RoundVerdict, judge_round
from truetouch.runs import run
from truetouch.seeing import Seeing, judge_seeing
from truetouch.sheets import read_sheet
from truetouch.slips import Ringing
from truetouch.sturdy import calling_bears
from truetouch.truebooks import TrueVerdict, judge_true
from truetouch.watchers import Watch, judge_watch

PLAIN = Method(4, LITTLE.plain)
# Plain leads up to the end, and a book in which they never come to an end that is home.
ROUND = Book(PLAIN, ((0, (), "p", 0),))
NEVER = Book(LITTLE, ((0, (), "s", 1), (1, ((2, (3,)),), "p", 2)))
BAND = Band(LITTLE, (("p", "b"),), 1)
# A bob can always be rung for a plain lead, and leaves the head as it is.
FREE = Band(LITTLE, (("p", "b"),), None)
PRICES = Prices(LITTLE, (((1, None, None, None), 3), ((None, 2, None, None), -1)), (("p", 2),))


class Lists(TouchCase):

    def check(self, deed, *arguments):
        """The deed tells the same with lists for all tuples, and leaves these as they were; gives what it tells."""
        told = deed(*arguments)
        lists = [listed(argument) for argument in arguments]
        before = copy.deepcopy([argument for argument in lists if isinstance(argument, (list, dict))])
        self.assertEqual(deed(*lists), told)
        self.assertEqual([argument for argument in lists if isinstance(argument, (list, dict))], before)
        return told

    def test_judged_tables(self):
        conductor = Conductor(PLAIN, 2, ((("p", 0),) * 4,))
        for deed, *arguments in [
                (judge_round, ROUND, RoundVerdict(ROUND).table), (judge_never, NEVER, CanVerdict(NEVER).table),
                (judge_out, NEVER, 1, (2,), KeepsOut(NEVER, 4, (1,)).table or CanVerdict(NEVER).table),
                (judge_true, ROUND, TrueVerdict(ROUND).table), (judge_books, ROUND, ROUND, BookPair(ROUND, ROUND).table),
                (judge_starts, conductor, AllStarts(conductor).table), (judge_intime, LITTLE, InTime(LITTLE).table),
                (judge_watch, LITTLE, (1, 2, 3), 1, Watch(LITTLE, (1, 2, 3), 1).table),
                (judge_seeing, BAND, Seeing(BAND).table), (judge_hopes, FREE, (1, 4, 2, 3), Blind(FREE, (1, 4, 2, 3)).table),
                (judge_round_pairs, LITTLE, LITTLE, RoundAlike(LITTLE, LITTLE).table),
                (judge_clashes, LITTLE, LITTLE, ClashAlike(LITTLE, LITTLE).table),
                (judge_bounds, PRICES, Cheapest(PRICES, 3).bounds),
                (judge_potentials, PRICES, Mean(PRICES).mean, Mean(PRICES).potentials)]:
            table = arguments[-1]
            self.assertGreater(len(table), 1, deed)
            self.check(deed, *arguments)
            for number in range(len(table)):
                self.check(deed, *arguments[:-1], table[:number] + table[number + 1:])
                self.check(deed, *arguments[:-1], table[:number] + (None, table) + table[number:])

    def test_calls(self):
        conductor = Conductor(PLAIN, 2, ((("p", 0),) * 4,))
        self.assertEqual(self.check(conductor, 0, (1, 2, 4, 3)), ("p", 0))
        self.assertEqual(self.check(conductor.outcome, (4, 3, 2, 1)), ("round", "ppp"))
        self.assertEqual(self.check(read_sheet, LITTLE, 2, (((2, 1, "b"),), 1)), "pppbp")
        program = Program(LITTLE, (("repeat", "k", (("call", "p"),)),))
        self.assertEqual(self.check(run, program, {"k": 3}), ("round", "ppp"))
        self.assertEqual(self.check(AllValues(program).end_of, {"k": 3}), ("round", (1, 2, 3, 4)))
        mends = Mends(LITTLE)
        self.assertEqual(self.check(mends, (1, 3, 4, 2), (1, 2, 3, 4)), mends[1, 3, 4, 2])
        self.assertEqual(self.check(lambda thing: mends[thing], (1, 3, 4, 2)), "pp")
        self.assertEqual(self.check(mend_in_time, LITTLE, "bb", (1, 3, 4, 2)), (2, "pp"))
        self.assertEqual(self.check(InTime(LITTLE).value, (1, 2, 3, 4)), 0)
        self.assertEqual(self.check(exchanges, (2, 1, 3), (1, 2, 3)), ((1, 2),))
        self.assertEqual(self.check(exchanged, (2, 1, 3), (1, 2)), (1, 2, 3))
        deeds = (("ring", "pb", "bp"), ("meant", (4, 3, 2, 1)), ("trial", (("swap", 1, 2), ("wait", "p"))))
        self.assertEqual(len(self.check(rehearsed, Practice(LITTLE), deeds)), 3)
        self.assertEqual(self.check(Seeing(BAND).play, (1, 4, 2, 3), "bp"), ("pp", ((1, 2, 3, 4), 1)))
        self.assertEqual(self.check(BAND.behind, ((1, 2, 3, 4), 1), "p"), (("p", ((1, 3, 4, 2), 1)),))
        self.assertEqual(self.check(Watch(LITTLE, (1, 2), 0).after, (("p", (1, 3)),)), (
            ((1, 3, 2, 4), 0), ((1, 3, 4, 2), 0)))
        self.assertEqual(self.check(calling_bears, LITTLE, (("p", "b"),), "pppp"), 1)
        self.assertEqual(self.check(PRICES.of_lead, (1, 2, 3, 4), "p"), 2 + 2 * 3 - 2)
        self.assertEqual(self.check(Mean(PRICES).bound, (1, 2, 3, 4), 0), 0)
        lines = ("method m", "method 3 1", "end", "strike m", "strike m")
        self.assertEqual(self.check(taken_up, lines)[1], 4)
        self.assertEqual(self.check(read_journal, lines[:4]).deeds, 2)
        self.assertIs(self.check(lambda thing: thing in Outlook(ROUND), (0, (1, 2, 3, 4))), True)
        self.assertEqual(self.check(lambda thing: Outlook(ROUND)[thing], (-1, (1, 2, 3, 4))), "ppp")

    def test_what_is_kept(self):
        for kind, told, name in [
                (lambda thing: Conductor(LITTLE, 2, thing), ((("p", 0), ("b", 0), ("s", 0), ("p", 0)),), "table"),
                (lambda thing: Program(LITTLE, thing), (("if", 2, (1, 3), (("call", "p"),), (("repeat", "k", ()),)),), "script"),
                (lambda thing: Band(LITTLE, thing, 1), (("p", "bs"), ("s", "b")), "hears"),
                (lambda thing: Prices(LITTLE, thing), (((1, None, None, None), 3), ((None,) * 4, -1)), "rules"),
                (lambda thing: Prices(LITTLE, (), thing), (("p", 3), ("b", -1)), "fees"),
                (lambda thing: Ringing(LITTLE, "pb", thing), (("crossed", 1, 3, (1, 4)), ("swapped", 1, 2, 3)), "slips")]:
            lists = listed(told)
            made = kind(lists)
            self.assertEqual(lists, listed(told))
            self.assertEqual(getattr(made, name), told)
            spoil(lists)
            self.assertEqual(getattr(made, name), told)
            self.assertEqual(made, kind(told))
        heard = [[1, None, 3, 4], [None] * 4]
        hearing = Hearing(LITTLE, "p", heard)
        spoil(heard)
        self.assertEqual(hearing.heard, ((1, None, 3, 4), (None,) * 4))
        program = Program(LITTLE, [["repeat", "k", [["call", "p"]]]])
        self.assertEqual(list(program.statements()), [("repeat", "k", (("call", "p"),)), ("call", "p")])


if __name__ == "__main__":
    unittest.main()
