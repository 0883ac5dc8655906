"""Promise 47: prices of rows, leads and touches."""

import random
import unittest

from tests.asserts import TouchCase
from tests.pricesamples import calling_price, row_price, some_prices
from tests.samples import LITTLE, SEVEN, listed, rung, shuffled_rows, spoil
from truetouch.errors import BadCalling, BadFee, BadLetter, BadRow, BadRule, TooMany
from truetouch.methods import Method
from truetouch.prices import Prices

NOTHING = (None,) * 4
ROUNDS = (1, 2, 3, 4)


class PricesOfAll(TouchCase):

    def test_against_ringing_row_by_row(self):
        for seed in range(80):
            chance = random.Random(seed)
            prices = some_prices(seed)
            rows = shuffled_rows(prices.method.stage)
            for row in rows[::7]:
                self.assertEqual(prices.of_row(row), row_price(prices, row))
                for letter in prices.method.letters:
                    self.assertEqual(prices.of_lead(row, letter), calling_price(prices, letter, row))
            for _ in range(4):
                calling = "".join(chance.choice(prices.method.letters) for _ in range(chance.randint(0, 6)))
                start = chance.choice(rows + [None])
                self.assertEqual(prices.of_touch(calling, start), calling_price(prices, calling, start))
                self.assertEqual(prices.of_touch(calling), calling_price(prices, calling))
                leads = [prices.of_lead(head, letter) for head, letter in zip(rung(prices.method, calling)[1], calling)]
                self.assertEqual(prices.of_touch(calling), sum(leads))

    def test_by_hand(self):
        # The end is not rung, so rounds is paid once in three plain leads, and each lead rings its head once.
        prices = Prices(LITTLE, ((ROUNDS, 5), ((1, None, None, None), 1)), (("p", -2),))
        self.assertEqual((prices.of_row(ROUNDS), prices.of_row((1, 2, 4, 3)), prices.of_row((2, 1, 4, 3))), (6, 1, 0))
        self.assertEqual(prices.of_lead(ROUNDS, "p"), 5 + 2 - 2)
        self.assertEqual(prices.of_touch("ppp"), 5 + 3 * 2 - 3 * 2)
        self.assertEqual(prices.of_touch(""), 0)
        self.assertEqual(prices.of_touch("s"), 5 + 2)

    def test_nothing_has_a_price(self):
        prices = Prices(LITTLE, ())
        self.assertEqual((prices.fees, prices.of_row(ROUNDS), prices.of_touch("p" * 400)), ((), 0, 0))

    def test_rules_twice_and_prices_at_the_bounds(self):
        prices = Prices(LITTLE, ((NOTHING, 100),) * 12, (("p", -100), ("b", 100)))
        self.assertEqual(prices.of_row(ROUNDS), 1200)
        self.assertEqual(prices.of_touch("p" * 400), 400 * (8 * 1200 - 100))
        self.assertEqual(Prices(LITTLE, ((NOTHING, -100),) * 2).of_lead(ROUNDS, "s"), -1600)

    def test_wrong_rules(self):
        for rules in (None, "rule", 3, {}, True):
            self.raises(BadRule, [-1], Prices, LITTLE, rules, None)
        good = (NOTHING, 0)
        for rule in (None, (), (NOTHING,), (NOTHING, 1, 2), (NOTHING, 101), (NOTHING, -101), (NOTHING, True), (NOTHING, None), "ab",
                     ((None,) * 3, 1), ((None,) * 5, 1), ((1, 1, None, None), 1), ((5, None, None, None), 1), (None, 1),
                     ((True, None, None, None), 1), ((0, None, None, None), 1), (NOTHING, "1"), (NOTHING, 10 ** 39)):
            self.raises(BadRule, [1], Prices, LITTLE, (good, rule, None), None)
            self.raises(BadRule, [13], Prices, LITTLE, (good,) * 13 + (rule,), None)
        self.raises(TooMany, ["rule"], Prices, LITTLE, (good,) * 13, None)
        self.assertEqual(len(Prices(LITTLE, (good,) * 12).rules), 12)

    def test_wrong_fees(self):
        for fees in (None, "fee", 3, {}, True):
            self.raises(BadFee, [-1], Prices, LITTLE, (), fees)
        for fee in (None, (), ("p",), ("p", 1, 2), ("p", 101), ("p", -101), ("p", False), ("p", None), ("x", 1), ("", 1), ("pb", 1),
                    (["p"], 1), ("b", 1), "p1", (None, 1)):
            self.raises(BadFee, [1], Prices, LITTLE, (), (("b", 1), fee, None))

    def test_errors_of_what_is_asked(self):
        prices = Prices(SEVEN, ())
        rounds = tuple(range(1, 8))
        for row in (None, (1, 2, 3), (1, 2, 3, 4, 5, 6, 6), (True, 2, 3, 4, 5, 6, 7), "1234567", ()):
            self.assertIs(self.raises(BadRow, [row], prices.of_row, row).row, row)
            self.raises(BadRow, [row], prices.of_lead, row, "x")
        for letter in ("x", "", "pb", None, 0):
            self.raises(BadLetter, [letter], prices.of_lead, rounds, letter)
        for calling, number in ((None, -1), ("p" * 401, -1), ("pxp", 1), (("p",), -1)):
            self.raises(BadCalling, [number], prices.of_touch, calling, ())
        self.raises(BadRow, [()], prices.of_touch, "p", ())
        self.raises(BadRow, [(1, 2)], prices.of_touch, "", (1, 2))
        # However many heads there are.
        self.assertEqual(prices.of_touch("pbs", rounds), 0)

    def test_equal(self):
        prices = Prices(LITTLE, ((NOTHING, 1), (ROUNDS, 2)), (("p", 3),))
        self.assertTrue(prices == Prices(Method(4, LITTLE.plain, LITTLE.calls), [[[None] * 4, 1], [[1, 2, 3, 4], 2]], [["p", 3]]))
        self.assertFalse(prices == Prices(LITTLE, ((ROUNDS, 2), (NOTHING, 1)), (("p", 3),)))
        self.assertFalse(prices == Prices(LITTLE, ((NOTHING, 1), (ROUNDS, 2))))
        self.assertFalse(Prices(LITTLE, ()) == Prices(LITTLE, (), (("p", 0),)))
        self.assertFalse(Prices(LITTLE, ()) == Prices(Method(4, LITTLE.plain), ()))
        for thing in (None, LITTLE, ()):
            self.assertIs(prices == thing, False)

    def test_lists(self):
        rules, fees = listed(((NOTHING, 1), (ROUNDS, 2))), listed((("p", 3),))
        prices = Prices(LITTLE, rules, fees)
        self.assertEqual((rules, fees), (listed(((NOTHING, 1), (ROUNDS, 2))), [["p", 3]]))
        spoil(rules)
        spoil(fees)
        self.assertEqual((prices.rules, prices.fees), (((NOTHING, 1), (ROUNDS, 2)), (("p", 3),)))
        self.assertEqual(prices.of_row([1, 2, 3, 4]), 3)
        self.assertEqual(prices.of_lead([1, 2, 3, 4], "p"), 13)
        self.assertEqual(prices.of_touch("p", [1, 2, 3, 4]), 13)


if __name__ == "__main__":
    unittest.main()
