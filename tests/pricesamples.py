"""Prices for the tests, and what callings cost, told by ringing row by row."""

import random

from tests.bandsamples import lettered_method
from tests.samples import rung
from truetouch.prices import Prices


def some_prices(seed, calls=2):
    """Prices over a small method, other ones for each seed."""
    chance = random.Random(seed)
    method = lettered_method(seed, calls)
    rules = []
    for _ in range(chance.randint(0, 6)):
        bells = chance.sample(range(1, method.stage + 1), method.stage)
        rules.append((tuple(bell if chance.random() < 0.4 else None for bell in bells), chance.randint(-9, 9)))
    fees = [(letter, chance.randint(-9, 9)) for letter in chance.sample(method.letters, chance.randint(0, len(method.letters)))]
    return Prices(method, tuple(rules), tuple(fees))


def row_price(prices, row):
    return sum(price for pattern, price in prices.rules
               if all(heard is None or heard == bell for heard, bell in zip(pattern, row)))


def calling_price(prices, calling, start=None):
    rows, _ = rung(prices.method, calling, start)
    return sum(row_price(prices, row) for row in rows) + sum(dict(prices.fees).get(letter, 0) for letter in calling)
