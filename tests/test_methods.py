"""Promise 4: leads, methods, calls, head moves, bodies, and the order in which a method is judged."""

import unittest

from tests.asserts import TouchCase
from tests.samples import LITTLE, THREE, lead_of, listed, rung, some_method, spoil
from truetouch.errors import BadCall, BadLead, BadLetter, BadStage, TooMany, Twice
from truetouch.methods import Method

GOOD = ("b", 0, ((1,),))


def calls_of(letters):
    return tuple((letter, 0, ((1,),)) for letter in letters)


class Methods(TouchCase):

    def test_leads_heads_bodies(self):
        for seed in range(40):
            method = some_method(seed)
            for letter in method.letters:
                self.assertEqual(list(method.lead(letter)), lead_of(method, letter))
                rows, heads = rung(method, letter)
                self.assertEqual(method.body(letter), tuple(rows))
                self.assertEqual(method.head(letter), heads[-1])
                self.assertEqual(len(method.body(letter)), method.size)

    def test_letters(self):
        self.assertEqual(LITTLE.letters, "bps")
        self.assertEqual(LITTLE.size, 8)
        self.assertEqual(len(LITTLE), 3)
        self.assertEqual(list(LITTLE), ["b", "p", "s"])
        self.assertEqual(Method.PLAIN, "p")
        self.assertEqual(LITTLE.PLAIN, "p")
        self.assertEqual(THREE.letters, "abp")
        for letter in "bps":
            self.assertIs(letter in LITTLE, True)
        for thing in ("a", "", "bp", None, 1, ["b"], ("b",), True):
            self.assertIs(thing in LITTLE, False)

    def test_call_that_changes_nothing_is_a_letter(self):
        method = Method(3, ((1,), (3,)), (("z", 1, ((3,),)),))
        self.assertEqual(method.letters, "pz")
        self.assertEqual(method.lead("z"), method.lead("p"))

    def test_bad_letters(self):
        for thing in ("a", "", "bp", None, 1, ["b"], True):
            for deed in (LITTLE.lead, LITTLE.head, LITTLE.body):
                self.assertIs(self.raises(BadLetter, [thing], deed, thing).letter, thing)

    def test_sizes(self):
        self.assertEqual(Method(3, [(1,)]).size, 1)
        self.assertEqual(Method(8, ((),) * 32).size, 32)
        self.raises(BadLead, [-1], Method, 8, ((),) * 33)
        self.raises(BadLead, [-1], Method, 8, ())
        self.assertEqual(Method(4, ((1, 2, 3, 4),)).head("p"), (1, 2, 3, 4))

    def test_equal(self):
        again = Method(4, listed(LITTLE.plain), listed(LITTLE.calls))
        self.assertTrue(LITTLE == again)
        self.assertFalse(LITTLE != again)
        self.assertFalse(LITTLE == Method(4, LITTLE.plain, LITTLE.calls[::-1]))
        self.assertFalse(LITTLE == Method(4, LITTLE.plain))
        self.assertFalse(Method(4, LITTLE.plain[::-1], LITTLE.calls) == LITTLE)
        self.assertFalse(Method(3, ((1, 2, 3),)) == Method(5, ((1, 2, 3),)))
        for thing in (None, 4, "bps", (4, LITTLE.plain, LITTLE.calls)):
            self.assertIs(LITTLE == thing, False)

    def test_lists(self):
        stage, plain, calls = 4, listed(LITTLE.plain), listed(LITTLE.calls)
        method = Method(stage, plain, calls)
        self.assertEqual((plain, calls), (listed(LITTLE.plain), listed(LITTLE.calls)))
        spoil(plain)
        spoil(calls)
        self.assertEqual((method.plain, method.calls), (LITTLE.plain, LITTLE.calls))
        self.assertEqual(method, LITTLE)
        self.assertEqual(method.body("b"), LITTLE.body("b"))

    def test_judged_in_order(self):
        for stage in (2, 9, True, None, "4"):
            self.raises(BadStage, [stage], Method, stage, None, None)
        for plain in (None, "x", 3, {}, ()):
            self.raises(BadLead, [-1], Method, 4, plain, None)
        self.raises(BadLead, [1], Method, 4, ((), (2,), (3,)), None)
        self.raises(BadLead, [0], Method, 4, ["", ()], None)
        self.raises(BadLead, [2], Method, 3, ((1,), (3,), (True,)))
        for calls in (None, "b", 3, {}):
            self.raises(BadCall, [-1], Method, 3, ((1,),), calls)
        self.raises(BadCall, [1], Method, 3, ((1,),), (GOOD, ("c", 0), GOOD))
        self.raises(BadCall, [6], Method, 3, ((1,),), calls_of("abcdef") + ("x",))
        self.raises(TooMany, ["call"], Method, 3, ((1,),), calls_of("abcdea"))
        self.raises(Twice, ["b"], Method, 3, ((1,),), calls_of("abba"))
        self.assertEqual(len(Method(3, ((1,),), calls_of("abcde"))), 6)

    def test_bad_calls(self):
        plain = ((1,), (3,), (1,))
        bad = [None, "b01", ("b", 0), ("b", 0, ((1,),), 0), ("p", 0, ((1,),)), ("B", 0, ((1,),)), ("", 0, ((1,),)),
               ("bc", 0, ((1,),)), (1, 0, ((1,),)), ("b", -1, ((1,),)), ("b", 3, ((1,),)), ("b", 2, ((1,), (3,))),
               ("b", True, ((1,),)), ("b", None, ((1,),)), ("b", 0, ()), ("b", 0, (1,)), ("b", 0, ((2,),)),
               ("b", 0, None), ("b", 0, "x"), ("b", 0, ((1,),) * 4), ("b", 10 ** 39, ((1,),))]
        for call in bad:
            self.raises(BadCall, [1], Method, 3, plain, (GOOD, call))
        for call in (("b", 2, ((1,),)), ("b", 0, ((1,),) * 3), ["z", 1, [[1], [3]]]):
            self.assertEqual(Method(3, plain, (call,)).size, 3)

    def test_more_calls(self):
        method = Method(3, ((1,),))
        for many, letter in enumerate("zyxba"):
            method = method + (letter, 0, ((3,),))
            self.assertEqual(len(method), many + 2)
        self.assertEqual([call[0] for call in method.calls], list("zyxba"))
        self.raises(TooMany, ["call"], lambda: method + GOOD)
        self.raises(BadCall, [5], lambda: method + ("p", 0, ((1,),)))
        self.assertEqual(len(method), 6)
        small = Method(3, ((1,),), (GOOD,))
        self.raises(Twice, ["b"], lambda: small + ["b", 0, [[1]]])
        self.raises(BadCall, [1], lambda: small + None)
        call = ["c", 0, [[1]]]
        more = small + call
        spoil(call)
        self.assertEqual(more.calls, (GOOD, ("c", 0, ((1,),))))


if __name__ == "__main__":
    unittest.main()
