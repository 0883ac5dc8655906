"""Promise 49: the least mean, its cycle, the potentials, and the judge of these."""

import random
import unittest
from fractions import Fraction

from tests.asserts import TouchCase
from tests.pricesamples import calling_price, some_prices
from tests.samples import LITTLE, SEVEN, SIX, callings, listed, rung
from truetouch.errors import TooMany, Unreached
from truetouch.heads import Heads
from truetouch.means import Mean, judge_potentials
from truetouch.methods import Method
from truetouch.prices import Prices


class PlainGraph:
    """The heads of a method, with the price of each lead from each of them."""

    def __init__(self, prices):
        self.letters = prices.method.letters
        self.heads = list(Heads(prices.method))
        self.led = {(head, letter): rung(prices.method, letter, head)[1][-1] for head in self.heads for letter in self.letters}
        self.price = {(head, letter): calling_price(prices, letter, head) for head in self.heads for letter in self.letters}

    def cycles(self):
        """All cycles that come to no head twice: of each the head, the calling and the price."""
        for start in self.heads:
            ways = [(start, "", 0, {start})]
            while ways:
                head, calling, price, seen = ways.pop()
                for letter in self.letters:
                    led, cost = self.led[head, letter], price + self.price[head, letter]
                    if led == start:
                        yield start, calling + letter, cost
                    elif led not in seen:
                        ways.append((led, calling + letter, cost, seen | {led}))

    def least(self):
        """The least mean and its cycle."""
        found = [(Fraction(price, len(calling)), len(calling), self.heads.index(head), calling)
                 for head, calling, price in self.cycles()]
        mean, _, number, calling = min(found)
        return (mean.numerator, mean.denominator), (self.heads[number], calling)

    def potentials(self, mean):
        """The potentials, by making them lesser until none can be."""
        above, below = mean
        best = {self.heads[0]: 0}
        changed = True
        while changed:
            changed = False
            for (head, letter), led in self.led.items():
                if head in best:
                    worth = best[head] + below * self.price[head, letter] - above
                    if led not in best or worth < best[led]:
                        best[led] = worth
                        changed = True
        return tuple(best[head] for head in self.heads)

    def judge(self, mean, potentials):
        if not isinstance(potentials, (tuple, list)) or len(potentials) != len(self.heads):
            return -1
        if not all(type(told) is int for told in potentials):
            return -1
        for number, head in enumerate(self.heads):
            for letter in self.letters:
                least = potentials[number] + mean[1] * self.price[head, letter] - mean[0]
                if potentials[self.heads.index(self.led[head, letter])] > least:
                    return number
        return None


def small_prices(many):
    for seed in range(many):
        prices = some_prices(seed)
        if len(Heads(prices.method)) <= (12 if len(prices.method) < 3 else 8):
            yield prices


class Means(TouchCase):

    def test_against_all_cycles(self):
        means, lengths = set(), set()
        for prices in [*small_prices(200), *[some_prices(seed) for seed in (251, 313, 1184, 1348)]]:
            graph = PlainGraph(prices)
            told = Mean(prices)
            mean, cycle = graph.least()
            self.assertEqual((told.mean, told.cycle), (mean, cycle))
            self.assertEqual(told.potentials, graph.potentials(mean))
            self.assertEqual(told.prices, prices)
            self.assertIsNone(judge_potentials(prices, told.mean, told.potentials))
            self.assertIsNone(judge_potentials(prices, list(told.mean), list(told.potentials)))
            means.add(mean)
            lengths.add(len(cycle[1]))
        self.assertTrue({1, 2, 3} <= lengths, lengths)
        self.assertTrue(any(below > 1 for _, below in means) and any(above < 0 for above, _ in means))

    def test_greater_methods(self):
        done = 0
        for seed in range(60):
            prices = some_prices(seed, 4)
            if 8 < len(Heads(prices.method)) <= 24:
                graph = PlainGraph(prices)
                told = Mean(prices)
                head, calling = told.cycle
                # The cycle has the mean, and by the potentials no other one has a lesser one.
                self.assertEqual(rung(prices.method, calling, head)[1][-1], head)
                self.assertEqual(Fraction(calling_price(prices, calling, head), len(calling)), Fraction(*told.mean))
                self.assertEqual(Fraction(*told.mean).denominator, told.mean[1])
                self.assertEqual(told.potentials, graph.potentials(told.mean))
                self.assertIsNone(graph.judge(told.mean, told.potentials))
                self.assertEqual(self.first_shortest(graph, told), told.cycle)
                done += 1
        self.assertGreater(done, 15)

    def first_shortest(self, graph, told):
        """The first of the shortest cycles with the mean, level by level, by leads that the potentials let be no cheaper."""
        worth = dict(zip(graph.heads, told.potentials))
        tight = {key: led for key, led in graph.led.items()
                 if worth[led] == worth[key[0]] + told.mean[1] * graph.price[key] - told.mean[0]}
        level = {(head, head): "" for head in graph.heads}
        while True:
            onward = {}
            for (start, head), calling in level.items():
                for letter in graph.letters:
                    if (head, letter) in tight:
                        key = (start, tight[head, letter])
                        onward[key] = min(onward.get(key, calling + letter), calling + letter)
            found = [head for head in graph.heads if (head, head) in onward]
            if found:
                return found[0], onward[found[0], found[0]]
            level = onward

    def test_bounds_hold_for_all_callings(self):
        tight = 0
        for seed in range(40):
            prices = some_prices(seed)
            told = Mean(prices)
            above, below = told.mean
            heads = list(Heads(prices.method))
            for calling in callings(prices.method.letters, 4 if len(prices.method) < 3 else 3):
                end = rung(prices.method, calling)[1][-1]
                least = Fraction(above * len(calling) + told.potentials[heads.index(end)] - told.potentials[0], below)
                bound = told.bound(end, len(calling))
                self.assertTrue(bound - 1 < least <= bound)
                self.assertGreaterEqual(calling_price(prices, calling), bound)
                tight += calling_price(prices, calling) == bound
            self.assertEqual(told.bound(list(heads[-1]), 10 ** 30),
                             -(-(above * 10 ** 30 + told.potentials[-1] - told.potentials[0]) // below))
        self.assertGreater(tight, 100)

    def test_by_hand(self):
        told = Mean(Prices(LITTLE, (), (("p", 2), ("b", 3), ("s", 7))))
        # Two singles come round at the price of 14, and plain leads cost least.
        self.assertEqual((told.mean, told.cycle[1], told.potentials[0]), ((2, 1), "ppp", 0))
        self.assertEqual(told.cycle[0], (1, 2, 3, 4))
        plain = Mean(Prices(Method(4, LITTLE.plain), (((1, 2, 3, 4), 1),)))
        self.assertEqual((plain.mean, plain.cycle, plain.potentials), ((1, 3), ((1, 2, 3, 4), "ppp"), (0, 2, 1)))
        self.assertEqual([plain.bound((1, 2, 3, 4), leads) for leads in (0, 1, 2, 3, 4)], [0, 1, 1, 1, 2])

    def test_nothing_has_a_price(self):
        told = Mean(Prices(LITTLE, ()))
        self.assertEqual((told.mean, told.cycle, set(told.potentials)), ((0, 1), ((1, 2, 3, 4), "b"), {0}))

    def test_one_head_and_no_call(self):
        still = Method(3, ((1, 2, 3), (1, 2, 3)))
        told = Mean(Prices(still, (((1, None, None), -100),), (("p", 3),)))
        self.assertEqual((told.mean, told.cycle, told.potentials), ((-197, 1), ((1, 2, 3), "p"), (0,)))

    def test_prices_at_the_bounds(self):
        nothing = (None,) * 6
        for price in (-100, 100):
            told = Mean(Prices(SIX, ((nothing, price),) * 12, (("p", price), ("b", price), ("s", price))))
            self.assertEqual(told.mean, (13 * price, 1))
            self.assertEqual(set(told.potentials), {0})
            self.assertEqual(told.cycle, ((1, 2, 3, 4, 5, 6), "bb"))

    def test_errors(self):
        self.raises(TooMany, ["head"], Mean, Prices(SEVEN, ()))
        self.raises(TooMany, ["head"], judge_potentials, Prices(SEVEN, ()), (0, 1), None)
        told = Mean(Prices(LITTLE, ()))
        for row in (None, (2, 1, 3, 4), [2, 1, 3, 4], (1, 2, 3), (True, 2, 3, 4), "1234", (), 0):
            self.assertIs(self.raises(Unreached, [row], told.bound, row, 1).row, row)


class Potentials(TouchCase):

    def test_spoilt(self):
        results = set()
        chance = random.Random(8)
        for prices in small_prices(90):
            graph = PlainGraph(prices)
            told = Mean(prices)
            for _ in range(25):
                potentials = list(told.potentials)
                mean = (told.mean[0] + chance.choice((0, 0, 0, 1, -1)), told.mean[1])
                for _ in range(chance.randint(0, 2)):
                    deed, at = chance.randrange(6), chance.randrange(len(graph.heads))
                    if deed == 0:
                        potentials = potentials[:at] + potentials[at + 1:]
                    elif deed == 1:
                        potentials.insert(at, 0)
                    elif at < len(potentials):
                        potentials[at] = chance.choice((None, True, "0", 10 ** 39, -10 ** 39)) if deed == 2 else (
                            (potentials[at] if type(potentials[at]) is int else 0) + chance.choice((-1, 1, 5)))
                wanted = graph.judge(mean, potentials)
                self.assertEqual(judge_potentials(prices, mean, tuple(potentials)), wanted)
                self.assertEqual(judge_potentials(prices, listed(mean), potentials), wanted)
                results.add(wanted)
        self.assertGreater(len(results), 5)
        self.assertTrue({None, -1, 0} <= results)

    def test_other_means(self):
        prices = Prices(Method(4, LITTLE.plain), (((1, 2, 3, 4), 1),))
        # The mean need not be in lowest terms, nor be the least one.
        self.assertIsNone(judge_potentials(prices, (2, 6), (0, 4, 2)))
        self.assertIsNone(judge_potentials(prices, (0, 1), (0, 0, 0)))
        self.assertIsNone(judge_potentials(prices, (1, 3), (7, 9, 8)))
        self.assertEqual(judge_potentials(prices, (1, 2), (0, 1, 0)), 2)
        for thing in (None, (), (0, 2), (0, 2, 1, 0), "abc", 3, {}, (0, 2, True), (0, 2, None)):
            self.assertEqual(judge_potentials(prices, (1, 3), thing), -1)


if __name__ == "__main__":
    unittest.main()
