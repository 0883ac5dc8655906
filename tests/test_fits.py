"""Promise 14: heard rows, patterns and fits."""

import itertools
import random
import unittest

from tests.asserts import TouchCase
from tests.samples import change_row, listed, plain_changes, shuffled_rows, spoil
from truetouch.errors import BadChange, BadHeard, BadStage, TooMany
from truetouch.fits import Fit

ANY = (None, None, None)


def suits(row, pattern):
    return all(heard in (None, bell) for bell, heard in zip(row, pattern))


def all_fits(stage, heard, allowed):
    """All fits, by trying all starts and changes."""
    found = []
    for start in shuffled_rows(stage):
        for lead in itertools.product(allowed, repeat=len(heard) - 1):
            rows = [start]
            for change in lead:
                rows.append(change_row(rows[-1], change))
            if all(suits(row, pattern) for row, pattern in zip(rows, heard)):
                found.append((start, lead))
    return sorted(found)


def some_heard(chance, stage, many):
    """Patterns of which some can be heard together, and some cannot."""
    row = tuple(chance.sample(range(1, stage + 1), stage))
    heard = []
    for _ in range(many):
        heard.append(tuple(bell if chance.random() < 0.4 else None for bell in row))
        if chance.random() < 0.9:
            row = change_row(row, chance.choice(plain_changes(stage)))
        else:
            row = tuple(chance.sample(range(1, stage + 1), stage))
    return tuple(heard)


class Fits(TouchCase):

    def test_all_fits(self):
        empty = 0
        for seed in range(120):
            chance = random.Random(seed)
            stage = chance.choice((3, 3, 4))
            heard = some_heard(chance, stage, chance.randint(2, 4))
            known = plain_changes(stage)
            allowed = tuple(chance.sample(known, chance.randint(1, len(known)))) if seed % 3 else None
            fits = all_fits(stage, heard, allowed or known)
            fit = Fit(stage, heard, allowed)
            self.assertEqual((fit.stage, fit.heard, fit.allowed), (stage, heard, allowed or tuple(known)))
            self.assertEqual(fit.number, len(fits))
            self.assertEqual(list(fit.each_fit()), fits)
            self.assertEqual(fit.first, fits[0] if fits else None)
            self.assertEqual(fit.last, fits[-1] if fits else None)
            self.assertEqual(fit.starts, tuple(sorted({start for start, _ in fits})))
            made = [{lead[at] for _, lead in fits} for at in range(len(heard) - 1)]
            self.assertEqual(fit.sure, tuple(next(iter(told)) if len(told) == 1 else None for told in made))
            empty += not fits
        self.assertGreater(empty, 10)
        self.assertLess(empty, 100)

    def test_no_fit(self):
        fit = Fit(3, ((1, 2, 3), (3, 2, 1), ANY))
        self.assertEqual((fit.number, fit.first, fit.last, fit.starts, fit.sure), (0, None, None, (), (None, None)))
        self.assertEqual(list(fit.each_fit()), [])

    def test_longest_and_greatest(self):
        fit = Fit(6, ((None,) * 6,) * 33)
        self.assertEqual(fit.number, 720 * 13 ** 32)
        self.assertEqual(fit.first, ((1, 2, 3, 4, 5, 6), ((),) * 32))
        self.assertEqual(fit.last, ((6, 5, 4, 3, 2, 1), ((5, 6),) * 32))
        told = list(itertools.islice(fit.each_fit(), 15))
        self.assertEqual(told[0], fit.first)
        self.assertEqual([lead[-1] for _, lead in told[:13]], plain_changes(6))
        self.assertEqual(told[13][1][-2:], (plain_changes(6)[1], ()))
        self.assertEqual(Fit(6, ((None,) * 6,) * 2).number, 720 * 13)

    def test_fits_are_told_one_by_one(self):
        fit = Fit(4, ((None,) * 4,) * 33)
        ways = fit.each_fit()
        self.assertEqual(next(ways), fit.first)
        again = fit.each_fit()
        self.assertEqual([next(again), next(again)], [fit.first, next(ways)])

    def test_one_change_is_sure(self):
        fit = Fit(4, ((1, 2, 3, 4), (2, 1, 4, 3), (None, None, None, 3)), ((), (1, 4), (1, 2), (3, 4)))
        self.assertEqual(fit.sure, ((), None))
        self.assertEqual(fit.number, 2)
        self.assertEqual(fit.allowed, ((), (1, 4), (1, 2), (3, 4)))

    def test_lists(self):
        heard = [[1, None, None], [None, None, 2]]
        allowed = [[3], [1]]
        fit = Fit(3, heard, allowed)
        self.assertEqual((heard, allowed), ([[1, None, None], [None, None, 2]], [[3], [1]]))
        spoil(heard)
        spoil(allowed)
        self.assertEqual(fit.heard, ((1, None, None), (None, None, 2)))
        self.assertEqual(fit.allowed, ((3,), (1,)))
        self.assertEqual(list(fit.each_fit()), all_fits(3, fit.heard, fit.allowed))
        self.assertEqual(Fit(3, listed(fit.heard), listed(fit.allowed)).first, fit.first)

    def test_errors_in_order(self):
        for stage in (2, 9, True, None):
            self.raises(BadStage, [stage], Fit, stage, None, 3)
        self.raises(TooMany, ["bell"], Fit, 7, None, 3)
        self.raises(TooMany, ["bell"], Fit, 8, ((None,) * 8,) * 2)
        for heard in (None, "12", 3, (), (ANY,), (ANY,) * 34, (None,) * 34):
            self.raises(BadHeard, [-1], Fit, 3, heard, 3)
        for pattern in (None, "123", (1, 2), (1, 2, 3, 4), (1, 1, None), (0, None, None), (4, None, None),
                        (True, None, None), ("1", None, None), (1.0, None, None), ((), None, None)):
            self.raises(BadHeard, [1], Fit, 3, (ANY, pattern, None), 3)
        for allowed in (3, "x", (), [], {}):
            self.assertIs(self.raises(BadChange, [allowed], Fit, 3, (ANY,) * 2, allowed).change, allowed)
        for change in ((), (2,), None, "1", (True,), [1], (1,)):
            self.raises(BadChange, [change], Fit, 3, (ANY,) * 2, ((3,), (1,), change, 7))
        self.assertEqual(Fit(3, (ANY,) * 33).number, 6 * 3 ** 32)


if __name__ == "__main__":
    unittest.main()
