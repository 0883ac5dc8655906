"""Methods with many letters, and bands over them, for the tests; how the bands ring, told by ringing row by row."""

import itertools
import random

from tests.samples import plain_changes, rung
from truetouch.bands import Band
from truetouch.methods import Method


def lettered_method(seed, most=5):
    """A small method with some calls, another one for each seed."""
    chance = random.Random(seed)
    stage = chance.choice((3, 4, 4, 5))
    changes = plain_changes(stage)
    size = chance.randint(1, 3)
    plain = tuple(chance.choice(changes) for _ in range(size))
    calls = []
    for letter in chance.sample("abcqsz", chance.randint(1, most)):
        at = chance.randint(0, size - 1)
        many = chance.randint(1, size - at)
        calls.append((letter, at, tuple(chance.choice(changes) for _ in range(many))))
    return Method(stage, plain, tuple(calls))


def changes_to(move):
    """Changes of two places each that lead from rounds to this row."""
    row, told = list(move), []
    while row != sorted(row):
        at = next(at for at in range(len(row) - 1) if row[at] > row[at + 1])
        row[at], row[at + 1] = row[at + 1], row[at]
        told.append(tuple(place for place in range(1, len(row) + 1) if place not in (at + 1, at + 2)))
    return told[::-1]


def method_of(*moves):
    """A method whose letters p, a, b, c, .. have these head moves."""
    stage = len(moves[0])
    leads = [changes_to(move) for move in moves]
    size = max(1, *[len(lead) for lead in leads])
    leads = [tuple(lead + [tuple(range(1, stage + 1))] * (size - len(lead))) for lead in leads]
    return Method(stage, leads[0], tuple((letter, 0, lead) for letter, lead in zip("abcde", leads[1:])))


# With 240 heads: five bells in all rows, and two others.
SPLIT = method_of((2, 1, 3, 4, 5, 6, 7), (2, 3, 4, 5, 1, 6, 7), (1, 2, 3, 4, 5, 7, 6))


def some_hears(chance, method):
    """What can be misheard: for some letters some others."""
    hears = []
    for letter in chance.sample(method.letters, chance.randint(0, len(method.letters))):
        others = [other for other in method.letters if other != letter]
        if others:
            hears.append((letter, "".join(sorted(chance.sample(others, chance.randint(1, len(others)))))))
    return tuple(hears)


def some_band(seed):
    """A band over a small method, another one for each seed."""
    chance = random.Random(seed)
    method = lettered_method(seed, 3)
    return Band(method, some_hears(chance, method), chance.choice((0, 1, 1, 2, 3, 4, None, None)))


def plain_heads(method):
    """All heads in any order, by going on as long as there are new ones."""
    found = {tuple(range(1, method.stage + 1))}
    waiting = list(found)
    while waiting:
        row = waiting.pop()
        for letter in method.letters:
            led = rung(method, letter, row)[1][-1]
            if led not in found:
                found.add(led)
                waiting.append(led)
    return found


class PlainBand:
    """What a band can ring, by what it is made of."""

    def __init__(self, band):
        self.method = band.method
        self.hears = dict(band.hears)
        self.most = band.most
        self.kept = {}

    def led(self, row, letter):
        if (row, letter) not in self.kept:
            self.kept[row, letter] = rung(self.method, letter, row)[1][-1]
        return self.kept[row, letter]

    def behind(self, node, letter):
        """For each letter that can be rung for this one the node behind."""
        row, made = node
        told = {letter: (self.led(row, letter), made)}
        if self.most is None or made < self.most:
            for other in self.hears.get(letter, ""):
                told[other] = (self.led(row, other), made if self.most is None else made + 1)
        return told

    def strings(self, calling):
        """All strings that can be rung for the calling, with the number of letters misheard."""
        for told in itertools.product(*[sorted(letter + self.hears.get(letter, "")) for letter in calling]):
            made = sum(rung != called for rung, called in zip(told, calling))
            if self.most is None or made <= self.most:
                yield "".join(told), made

    def heads_rung(self, string, start=None):
        """The heads behind the leads of a string."""
        row = start or tuple(range(1, self.method.stage + 1))
        rows = []
        for letter in string:
            row = self.led(row, letter)
            rows.append(row)
        return rows
