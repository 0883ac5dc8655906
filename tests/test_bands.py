"""Promise 40: bands that mishear, and their nodes."""

import itertools
import random
import unittest

from tests.asserts import TouchCase
from tests.bandsamples import SPLIT, PlainBand, some_band
from tests.samples import LITTLE, SEVEN, SIX, listed, rung, spoil
from truetouch.bands import Band
from truetouch.errors import BadHears, BadLetter, BadMost, TooMany
from truetouch.heads import Heads
from truetouch.methods import Method

ROUNDS = (1, 2, 3, 4)


class Bands(TouchCase):

    def test_what_can_be_rung(self):
        band = Band(LITTLE, (("p", "bs"), ("s", "b")), 1)
        self.assertEqual([band.rings(letter) for letter in "bps"], ["b", "bps", "bs"])
        # Whatever the most is.
        self.assertEqual(Band(LITTLE, (("p", "bs"),), 0).rings("p"), "bps")
        for seed in range(60):
            band = some_band(seed)
            hears = dict(band.hears)
            for letter in band.method.letters:
                self.assertEqual(band.rings(letter), "".join(sorted(letter + hears.get(letter, ""))))

    def test_behind(self):
        mosts = set()
        for seed in range(80):
            band = some_band(seed)
            plain = PlainBand(band)
            rows = list(itertools.permutations(range(1, band.method.stage + 1)))
            for row in random.Random(seed).sample(rows, 5):
                for made in range((band.most or 0) + 1):
                    for letter in band.method.letters:
                        wanted = tuple(sorted(plain.behind((row, made), letter).items()))
                        self.assertEqual(band.behind((row, made), letter), wanted)
                        self.assertEqual(band.behind([list(row), made], letter), wanted)
            mosts.add(band.most)
        self.assertEqual(mosts, {0, 1, 2, 3, 4, None})

    def test_behind_by_hand(self):
        band = Band(LITTLE, (("p", "s"),), 2)
        plain, single = (1, 3, 4, 2), rung(LITTLE, "s")[1][-1]
        self.assertEqual(band.behind((ROUNDS, 0), "p"), (("p", (plain, 0)), ("s", (single, 1))))
        self.assertEqual(band.behind((ROUNDS, 2), "p"), (("p", (plain, 2)),))
        free = Band(LITTLE, (("p", "s"),), None)
        self.assertEqual(free.behind((ROUNDS, 0), "p"), (("p", (plain, 0)), ("s", (single, 0))))

    def test_nodes(self):
        for seed in range(40):
            band = some_band(seed)
            wanted = tuple((head, made) for head in Heads(band.method) for made in range((band.most or 0) + 1))
            self.assertEqual(band.nodes(), wanted)

    def test_number_of_nodes(self):
        self.assertEqual(len(Heads(SPLIT)), 240)
        self.assertEqual(len(Band(SPLIT, (), 3).nodes()), 960)
        self.raises(TooMany, ["node"], Band(SPLIT, (), 4).nodes)
        self.assertEqual(len(Band(SPLIT, (), None).nodes()), 240)
        self.assertEqual(len(Band(SIX, (), 0).nodes()), 720)
        self.raises(TooMany, ["node"], Band(SIX, (), 1).nodes)
        self.raises(TooMany, ["head"], Band(SEVEN, (), 4).nodes)
        # A band is made all the same, and what it can ring is told.
        band = Band(SEVEN, (("b", "p"),), 4)
        self.assertEqual((band.rings("b"), len(band.behind((tuple(range(1, 8)), 0), "b"))), ("bp", 2))

    def test_equal(self):
        band = Band(LITTLE, (("p", "b"), ("b", "s")), 1)
        self.assertTrue(band == Band(Method(4, LITTLE.plain, LITTLE.calls), [["p", "b"], ["b", "s"]], 1))
        self.assertFalse(band == Band(LITTLE, (("b", "s"), ("p", "b")), 1))
        self.assertFalse(band == Band(LITTLE, (("p", "b"), ("b", "s")), None))
        self.assertFalse(Band(LITTLE, (), 0) == Band(Method(4, LITTLE.plain, LITTLE.calls[::-1]), (), 0))
        for thing in (None, LITTLE, ()):
            self.assertIs(band == thing, False)

    def test_wrong_hears(self):
        for hears in (None, "pb", 3, {}, True):
            self.raises(BadHears, [-1], Band, LITTLE, hears, 9)
        good = ("b", "p")
        for pair in (None, (), "pb", ("p",), ("p", "b", 1), ("x", "b"), ("p", ""), ("p", "p"), ("p", "bp"), ("p", "sb"), ("p", "bb"),
                     ("p", "bx"), ("p", None), ("p", ("b",)), (["p"], "b"), (None, "b"), ("b", "s"), ("", "b"), ("pb", "s"), (0, "b"),
                     ("p", "B")):
            self.raises(BadHears, [1], Band, LITTLE, (good, pair, None), 9)
        self.raises(BadHears, [0], Band, Method(4, LITTLE.plain), (("p", "p"),), 9)

    def test_wrong_most(self):
        for most in (-1, 5, True, False, "1", (), [1], 10 ** 39):
            self.assertIs(self.raises(BadMost, [most], Band, LITTLE, (), most).most, most)

    def test_wrong_letters(self):
        band = Band(LITTLE, (("p", "b"),), 1)
        for letter in ("x", "", "pb", None, 0, ("p",), ["p"]):
            self.raises(BadLetter, [letter], band.rings, letter)
            self.raises(BadLetter, [letter], band.behind, (ROUNDS, 0), letter)

    def test_lists(self):
        hears = listed((("p", "bs"), ("s", "b")))
        band = Band(LITTLE, hears, 1)
        self.assertEqual(hears, [["p", "bs"], ["s", "b"]])
        spoil(hears)
        self.assertEqual(band.hears, (("p", "bs"), ("s", "b")))
        self.assertEqual((band.rings("p"), band.method, band.most), ("bps", LITTLE, 1))


if __name__ == "__main__":
    unittest.main()
