"""Promise 43: sturdy callings, spoilers, and what a calling bears."""

import random
import unittest

from tests.asserts import TouchCase
from tests.bandsamples import PlainBand, lettered_method, method_of, some_band, some_hears
from tests.samples import LITTLE, SEVEN, SIX, listed, rung
from truetouch.bands import Band
from truetouch.errors import BadCalling, BadHears, TooMany
from truetouch.methods import Method
from truetouch.sturdy import calling_bears, spoiler


def plain_spoiler(band, calling):
    """The spoiler, by all strings that the band can ring."""
    plain = PlainBand(band)
    rounds = tuple(range(1, band.method.stage + 1))
    strings = [(made, string) for string, made in plain.strings(calling) if rounds not in plain.heads_rung(string)]
    return min(strings)[1] if strings else None


class Sturdy(TouchCase):

    def test_against_all_strings_that_can_be_rung(self):
        told = set()
        chance = random.Random(1)
        for seed in range(200):
            band = some_band(seed)
            for _ in range(4):
                calling = "".join(chance.choice(band.method.letters) for _ in range(chance.randint(0, 5)))
                wanted = plain_spoiler(band, calling)
                self.assertEqual(spoiler(band, calling), wanted)
                told.add(None if wanted is None else sum(a != b for a, b in zip(wanted, calling)))
        self.assertTrue({None, 0, 1, 2} <= told, told)

    def test_what_a_calling_bears(self):
        told = set()
        chance = random.Random(2)
        for seed in range(200):
            method = lettered_method(seed, 3)
            hears = some_hears(chance, method)
            calling = "".join(chance.choice(method.letters) for _ in range(chance.randint(0, 4)))
            sturdy = [many for many in range(5) if plain_spoiler(Band(method, hears, many), calling) is None]
            wanted = len(calling) if 4 in sturdy and len(sturdy) == 5 else max([-1] + sturdy)
            self.assertEqual(calling_bears(method, hears, calling), wanted)
            self.assertEqual(calling_bears(method, listed(hears), calling), wanted)
            told.add((wanted, len(calling)))
        self.assertTrue({(-1, 0), (-1, 1), (0, 2), (1, 1), (2, 2)} <= told, told)

    def test_empty_calling(self):
        for most in (0, 4, None):
            self.assertEqual(spoiler(Band(LITTLE, (("p", "b"),), most), ""), "")
        self.assertEqual(calling_bears(LITTLE, (), ""), -1)

    def test_by_hand(self):
        self.assertIsNone(spoiler(Band(LITTLE, (), None), "ppp"))
        self.assertEqual(spoiler(Band(LITTLE, (), None), "pp"), "pp")
        # A bob leaves the head as it is, so one of them spoils three plain leads, but not four.
        band = Band(LITTLE, (("p", "bs"),), 1)
        self.assertEqual(spoiler(band, "ppp"), "pbp")
        self.assertEqual([calling_bears(LITTLE, (("p", "b"),), "p" * many) for many in (2, 3, 4, 5)], [-1, 0, 1, 2])

    def test_the_start_does_not_count(self):
        still = Method(3, ((1, 2, 3),))
        self.assertIsNone(spoiler(Band(still, (), 0), "p"))
        self.assertEqual(calling_bears(still, (), "p"), 1)
        self.assertEqual(calling_bears(still, (), "pp"), 2)

    def test_long_callings(self):
        # Only by mishearing all plain leads but the first one the bells stay away from rounds.
        method = method_of((2, 1, 3), (1, 2, 3))
        for most, wanted in ((0, None), (4, None), (None, "p" + "a" * 399)):
            self.assertEqual(spoiler(Band(method, (("p", "a"),), most), "p" * 400), wanted)
        self.assertEqual(calling_bears(method, (("p", "a"),), "p" * 400), 398)
        free = spoiler(Band(SIX, (("b", "ps"), ("p", "b")), None), "bpspbs" * 66)
        self.assertNotIn((1, 2, 3, 4, 5, 6), rung(SIX, free)[1][1:])

    def test_errors_in_order(self):
        for calling, number in ((None, -1), ("p" * 401, -1), ("pxp", 1), (("p",), -1)):
            self.raises(BadCalling, [number], spoiler, Band(SEVEN, (), 0), calling)
            self.raises(BadCalling, [number], calling_bears, SEVEN, (), calling)
            self.raises(BadHears, [0], calling_bears, SEVEN, (("p", "p"),), calling)
            self.raises(BadHears, [-1], calling_bears, SEVEN, None, calling)
        self.raises(TooMany, ["head"], spoiler, Band(SEVEN, (), 0), "")
        self.raises(TooMany, ["head"], calling_bears, SEVEN, (), "p")
        # Nodes are not reckoned with.
        self.assertEqual(spoiler(Band(SIX, (), 4), "p"), "p")


if __name__ == "__main__":
    unittest.main()
