"""Promise 32: the faults of a kind of slip."""

import itertools
import random
import unittest

from tests.asserts import TouchCase
from tests.bandsamples import lettered_method
from tests.samples import LITTLE, SEVEN, callings, change_row, lead_of, plain_changes, some_method
from truetouch.errors import BadKind
from truetouch.faults import faults_of
from truetouch.methods import Method
from truetouch.slips import Ringing


def step(first, second):
    return tuple(first.index(bell) + 1 for bell in second)


def plain_faults(method, kind, start):
    """The faults behind one lead that is rung from this head with one slip, by doing each change."""
    found = set()
    for called in method.letters:
        lead = lead_of(method, called)
        meant = done(start, lead)
        if kind == "mistaken":
            rows = [done(start, lead_of(method, other)) for other in method.letters if other != called]
        elif kind == "crossed":
            rows = [done(start, lead[:at] + [change] + lead[at + 1:])
                    for at in range(len(lead)) for change in plain_changes(method.stage)]
        else:
            rows = []
            for bell, other in itertools.combinations(range(1, method.stage + 1), 2):
                swap = {bell: other, other: bell}
                rows.append(done(tuple(swap.get(told, told) for told in start), lead))
        found |= {step(meant, row) for row in rows if row != meant}
    return tuple(sorted(found))


def done(row, lead):
    for change in lead:
        row = change_row(row, change)
    return row


class Faults(TouchCase):

    def test_against_one_slip_done_change_by_change(self):
        sizes = set()
        for seed in range(60):
            method = lettered_method(seed) if seed % 2 else some_method(seed)
            starts = random.Random(seed).sample(list(itertools.permutations(range(1, method.stage + 1))), 3)
            for kind in ("mistaken", "crossed", "swapped"):
                told = faults_of(method, kind)
                # Where the lead begins does not matter.
                for start in starts:
                    self.assertEqual(told, plain_faults(method, kind, start))
                sizes.add(len(told))
        self.assertGreater(len(sizes), 5)

    def test_against_ringings_with_one_slip(self):
        for seed in range(25):
            method = some_method(seed)
            found = {"mistaken": set(), "crossed": set(), "swapped": set()}
            for calling in callings(method.letters, 2):
                if calling:
                    last = len(calling) - 1
                    slips = [("mistaken", last, letter) for letter in method.letters if letter != calling[last]]
                    slips += [("crossed", last, at, change) for at in range(method.size)
                              for change in plain_changes(method.stage)]
                    slips += [("swapped", last, bell, other)
                              for bell, other in itertools.combinations(range(1, method.stage + 1), 2)]
                    for slip in slips:
                        found[slip[0]].add(Ringing(method, calling, (slip,)).faults[-1])
            for kind in found:
                rounds = tuple(range(1, method.stage + 1))
                self.assertEqual(faults_of(method, kind), tuple(sorted(found[kind] - {rounds})))

    def test_by_hand(self):
        # Behind the last change of LITTLE nothing is done, so a bob for a plain lead crosses 2 and 3, then 3 and 4.
        self.assertEqual(faults_of(LITTLE, "mistaken"), ((1, 2, 4, 3), (1, 3, 2, 4), (1, 3, 4, 2), (1, 4, 2, 3)))
        self.assertEqual(faults_of(LITTLE, "swapped"), (
            (1, 2, 4, 3), (1, 3, 2, 4), (1, 4, 3, 2), (2, 1, 3, 4), (3, 2, 1, 4), (4, 2, 3, 1)))

    def test_no_faults(self):
        self.assertEqual(faults_of(Method(3, ((1,),)), "mistaken"), ())
        # Different letters with the same lead make no fault.
        self.assertEqual(faults_of(Method(3, ((1,),), (("b", 0, ((1,),)),)), "mistaken"), ())

    def test_many_heads_do_not_matter(self):
        self.assertEqual(len(faults_of(SEVEN, "swapped")), 21)
        self.assertEqual(faults_of(SEVEN, "mistaken"), plain_faults(SEVEN, "mistaken", (1, 2, 3, 4, 5, 6, 7)))

    def test_other_kinds(self):
        for kind in ("", "swap", "Mistaken", "mistaken ", "faults", None, 0, True, (), ["swapped"], ("swapped",), {}):
            error = self.raises(BadKind, [kind], faults_of, LITTLE, kind)
            self.assertIs(error.word, kind)


if __name__ == "__main__":
    unittest.main()
