"""Promise 39: watches, the fewest places by which the doubt always ends."""

import itertools
import random
import unittest

from tests.asserts import TouchCase
from tests.bandsamples import lettered_method, plain_heads
from tests.samples import FIVE, LITTLE, SEVEN, SIX, some_method
from tests.watchsamples import PlainWatcher, longest_doubt
from truetouch.errors import BadDelay, BadSlips, TooMany
from truetouch.methods import Method
from truetouch.watches import watches

STILL = Method(3, ((1, 2, 3),), (("b", 0, ((1, 2, 3),)),))


def tuples_of_places(method):
    return [places for many in range(method.stage + 1)
            for places in itertools.combinations(range(1, method.stage + 1), many)]


def plain_watches(method, slips, delay):
    """The watches, by asking for all tuples of places; None if there are too many knowledges where it matters."""
    good = {}
    for places in tuples_of_places(method):
        steps, _ = PlainWatcher(method, places, slips).all_steps(400)
        ranks = None if steps is None else longest_doubt(steps)
        good[places] = None if steps is None else ranks is not None and max(ranks.values()) <= delay
    told = []
    for places in tuples_of_places(method):
        if not any(good[part] for part in good if set(part) < set(places)):
            if good[places] is None:
                return None
            if good[places]:
                told.append(places)
    return tuple(told)


class Watches(TouchCase):

    def test_against_all_tuples_of_places(self):
        results, lengths = set(), set()
        for seed in range(70):
            chance = random.Random(seed)
            method = lettered_method(seed, 2) if seed % 2 else some_method(seed)
            if len(plain_heads(method)) > 24:
                continue
            slips, delay = chance.choice((0, 1, 2, 3, None)), chance.choice((0, 1, 2, 3, 100))
            wanted = plain_watches(method, slips, delay)
            if wanted is None:
                self.raises(TooMany, ["knowledge"], watches, method, slips, delay)
            else:
                self.assertEqual(watches(method, slips, delay), wanted)
                lengths |= {len(places) for places in wanted}
                results.add(len(wanted))
        self.assertTrue({0, 1, 2, 3} <= lengths, lengths)
        self.assertGreater(len(results), 3)

    def test_little(self):
        for slips in (0, 1, 2, 3, None):
            for delay in (0, 1, 2, 100):
                self.assertEqual(watches(LITTLE, slips, delay), plain_watches(LITTLE, slips, delay))
        # Behind no delay at all nothing has been seen.
        self.assertEqual(watches(LITTLE, 0, 0), ())

    def test_who_needs_to_see_nothing(self):
        for slips in (0, 3, None):
            for delay in (0, 100):
                self.assertEqual(watches(STILL, slips, delay), ((),))

    def test_five_bells_and_six(self):
        self.assertEqual(watches(Method(5, FIVE.plain), 0, 100), plain_watches(Method(5, FIVE.plain), 0, 100))
        for method in (SIX, SEVEN, Method(6, ((1, 2),))):
            self.raises(TooMany, ["bell"], watches, method, 0, 100)

    def test_too_many_knowledges(self):
        # With 120 heads, and nothing seen of most of them.
        self.assertEqual(len(plain_heads(FIVE)), 120)
        self.assertIsNone(plain_watches(FIVE, 3, 100))
        self.raises(TooMany, ["knowledge"], watches, FIVE, 3, 100)

    def test_errors_in_order(self):
        for slips in (-1, 4, True, "1", (), 10 ** 39):
            self.raises(BadSlips, [slips], watches, SIX, slips, -1)
        for delay in (-1, 101, True, False, None, "1", (), 10 ** 39):
            self.assertIs(self.raises(BadDelay, [delay], watches, SIX, None, delay).delay, delay)
        self.raises(TooMany, ["bell"], watches, SIX, None, 100)


if __name__ == "__main__":
    unittest.main()
