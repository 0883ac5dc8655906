"""Promise 48: bounds and cheapest rounds, and the judge of bounds."""

import itertools
import random
import unittest

from tests.asserts import TouchCase
from tests.pricesamples import calling_price, some_prices
from tests.samples import LITTLE, SEVEN, SIX, callings, listed, rung
from truetouch.cheapest import Cheapest, judge_bounds
from truetouch.errors import BadMany, TooMany
from truetouch.heads import Heads
from truetouch.methods import Method
from truetouch.prices import Prices

NOTHING = (None,) * 4


def plain_bounds(prices, many):
    """The least price of all callings of each length for each head, and the cheapest rounds, by ringing all of them."""
    heads = list(Heads(prices.method))
    bounds, rounds = [], []
    for leads in range(many + 1):
        best, cheapest = {}, None
        for letters in itertools.product(prices.method.letters, repeat=leads):
            calling = "".join(letters)
            end, price = rung(prices.method, calling)[1][-1], calling_price(prices, calling)
            best[end] = min(best.get(end, price), price)
            if end == heads[0] and (cheapest is None or price < cheapest[0]):
                cheapest = (price, calling)
        bounds.append(tuple(best.get(head) for head in heads))
        rounds.append(cheapest)
    return tuple(bounds), rounds


def is_form(row, heads):
    return (isinstance(row, (tuple, list)) and len(row) == len(heads)
            and all(bound is None or type(bound) is int for bound in row))


def plain_judge(prices, table):
    heads = list(Heads(prices.method))
    if not table or not is_form(table[0], heads) or table[0][0] is None or table[0][0] > 0:
        return -1
    for number, row in enumerate(table):
        if not is_form(row, heads):
            return number
        if number + 1 < len(table):
            for head, bound in zip(heads, row):
                for letter in prices.method.letters if bound is not None else ():
                    led = heads.index(rung(prices.method, letter, head)[1][-1])
                    onward = table[number + 1][led] if is_form(table[number + 1], heads) else None
                    if onward is None or onward > bound + calling_price(prices, letter, head):
                        return number
    return None


class Rounds(TouchCase):

    def test_against_ringing_all_callings(self):
        rounds_found = set()
        for seed in range(70):
            prices = some_prices(seed)
            many = 5 if len(prices.method) < 3 else 4
            cheapest = Cheapest(prices, many)
            bounds, rounds = plain_bounds(prices, many)
            self.assertEqual((cheapest.bounds, len(cheapest), list(cheapest)), (bounds, many + 1, list(bounds)))
            self.assertEqual([cheapest[leads] for leads in range(many + 1)], rounds)
            self.assertEqual((cheapest.prices, cheapest.many), (prices, many))
            self.assertIsNone(judge_bounds(prices, cheapest.bounds))
            self.assertIsNone(judge_bounds(prices, listed(cheapest.bounds)))
            rounds_found |= {told is None for told in rounds}
        self.assertEqual(rounds_found, {True, False})

    def test_no_leads(self):
        cheapest = Cheapest(some_prices(3), 0)
        heads = len(Heads(cheapest.prices.method))
        self.assertEqual((cheapest[0], cheapest.bounds, len(cheapest)), ((0, ""), ((0,) + (None,) * (heads - 1),), 1))

    def test_by_hand(self):
        prices = Prices(LITTLE, (), (("p", 2), ("b", 1), ("s", 3)))
        cheapest = Cheapest(prices, 4)
        # Bobs leave the head as it is; plain leads come round behind three of them.
        self.assertEqual([cheapest[leads] for leads in range(5)], [(0, ""), (1, "b"), (2, "bb"), (3, "bbb"), (4, "bbbb")])
        plain = Cheapest(Prices(Method(4, LITTLE.plain), (), (("p", -7),)), 4)
        self.assertEqual([plain[leads] for leads in range(5)], [(0, ""), None, None, (-21, "ppp"), None])
        self.assertEqual(plain.bounds, ((0, None, None), (None, -7, None), (None, None, -14), (-21, None, None), (None, -28, None)))

    def test_least_of_the_cheapest(self):
        # All callings have one price, so the least calling that ends at rounds is told; it may come there before.
        cheapest = Cheapest(Prices(LITTLE, ()), 3)
        self.assertEqual([cheapest[leads] for leads in range(4)], [(0, ""), (0, "b"), (0, "bb"), (0, "bbb")])

    def test_sixty_leads(self):
        rules = ((tuple([1] + [None] * 5), -100), ((None, None, 4, None, None, None), 100), ((6, None, None, None, None, 1), 7))
        prices = Prices(SIX, rules, (("b", 3),))
        cheapest = Cheapest(prices, 60)
        self.assertEqual((len(cheapest), len(cheapest.bounds[60])), (61, 720))
        for leads in (59, 60):
            price, calling = cheapest[leads]
            self.assertEqual((len(calling), calling_price(prices, calling), cheapest.bounds[leads][0]), (leads, price, price))
            self.assertEqual(rung(SIX, calling)[1][-1], (1, 2, 3, 4, 5, 6))
        self.assertIsNone(judge_bounds(prices, cheapest.bounds))

    def test_errors_in_order(self):
        prices = Prices(SEVEN, ())
        for many in (-1, 61, True, False, None, "1", (), 10 ** 39):
            self.assertIs(self.raises(BadMany, [many], Cheapest, prices, many).many, many)
        self.raises(TooMany, ["head"], Cheapest, prices, 0)
        self.raises(TooMany, ["head"], judge_bounds, prices, None)
        cheapest = Cheapest(Prices(LITTLE, ()), 3)
        for leads in (-1, 4, True, False, None, "1", (0,), 10 ** 39):
            self.assertIs(self.raises(BadMany, [leads], lambda: cheapest[leads]).many, leads)

    def test_by_turns(self):
        told = [some_prices(seed) for seed in range(8)]
        found = [Cheapest(prices, 6) for prices in told]
        for prices, cheapest in zip(told, found):
            alone = Cheapest(prices, 6)
            self.assertEqual([cheapest[leads] for leads in range(7)], [alone[leads] for leads in range(7)])


class Bounds(TouchCase):

    def test_spoilt_tables(self):
        results = set()
        chance = random.Random(4)
        for seed in range(60):
            prices = some_prices(seed)
            heads = len(Heads(prices.method))
            if heads > 24:
                continue
            table = Cheapest(prices, 4).bounds
            for _ in range(40):
                rows = [list(row) for row in table]
                for _ in range(chance.randint(0, 2)):
                    deed, at = chance.randrange(7), chance.randrange(len(rows))
                    if deed == 0:
                        del rows[at]
                    elif deed == 1:
                        rows.insert(at, list(chance.choice(rows)))
                    elif deed == 2:
                        rows[at] = chance.choice((None, (), [True] * heads, ["1"] * heads, [0] * (heads + 1), [None] * heads))
                    elif rows[at] and isinstance(rows[at], list):
                        spot = chance.randrange(len(rows[at]))
                        change = chance.choice((None, -1, 1, 50, -50))
                        old = rows[at][spot]
                        rows[at][spot] = None if change is None else (old if type(old) is int else 0) + change
                    if not rows:
                        break
                wanted = plain_judge(prices, rows)
                self.assertEqual(judge_bounds(prices, tuple(tuple(row) if isinstance(row, list) else row for row in rows)), wanted)
                self.assertEqual(judge_bounds(prices, rows), wanted)
                results.add(wanted)
        self.assertEqual(results, {None, -1, 0, 1, 2, 3, 4})

    def test_hand_made(self):
        prices = Prices(Method(4, LITTLE.plain), (), (("p", -7),))
        good = ((0, None, None), (None, -7, None), (None, None, -14))
        self.assertIsNone(judge_bounds(prices, good))
        self.assertIsNone(judge_bounds(prices, ((-3, None, None), (None, -10, None))))
        for table, wanted in ((((1, None, None),), -1), (((None, 0, 0),), -1), ((), -1), (None, -1), ("table", -1), ((None,), -1),
                              (((0, None),), -1), (((0, None, True),), -1), (((0, None, None), None), 0), (((0, None, None),), None),
                              (((0, None, None), (None, None, None)), 0), (((0, None, None), (None, -6, None)), 0),
                              (((0, None, None), (None, -8, None)), None), (((0, None, None), (None, -7, None), None), 1),
                              (((0, 5, None), (None, -7, None)), 0), (((0, 5, None), (None, -7, -2)), None),
                              (((0, 5, None), (None, -7, -1)), 0), (good + (None,), 2), (good + ((-21, None, None), "x"), 3),
                              (good + ((-21, None, False),), 2)):
            self.assertEqual(judge_bounds(prices, table), wanted, table)
        # A tuple without integers is fitted by whatever follows; then it is the next one that is not right.
        told = ((0, None, None), (None, -7, None), (None, None, None))
        self.assertEqual(judge_bounds(prices, told), 1)
        still = Prices(Method(3, ((1, 2, 3),)), ())
        self.assertEqual(judge_bounds(still, ((0,), (0,), (None,))), 1)

    def test_whoever_wrote_them(self):
        # No calling is cheaper than bounds that are right tell for its end.
        for seed in range(20):
            prices = some_prices(seed)
            heads = list(Heads(prices.method))
            bounds = Cheapest(prices, 3).bounds
            lower = tuple(tuple(None if bound is None else bound - number for bound in row)
                          for number, row in enumerate(bounds))
            self.assertIsNone(judge_bounds(prices, lower))
            for calling in callings(prices.method.letters, 3):
                end = heads.index(rung(prices.method, calling)[1][-1])
                self.assertGreaterEqual(calling_price(prices, calling), lower[len(calling)][end])


if __name__ == "__main__":
    unittest.main()
