"""Promise 31: ringings with slips."""

import random
import unittest

from tests.asserts import TouchCase
from tests.samples import LITTLE, change_row, lead_of, listed, plain_changes, rung, some_method, spoil
from truetouch.errors import BadCalling, BadSlip, NoSpot, TooMany
from truetouch.methods import Method
from truetouch.rows import renamed
from truetouch.slips import Ringing
from truetouch.touches import Touch


def plain_ringing(method, calling, slips):
    """The rows rung and the rung heads, change by change and swap by swap."""
    row = list(range(1, method.stage + 1))
    rows, heads = [], []
    for number, letter in enumerate(calling):
        for slip in slips:
            if slip[0] == "swapped" and slip[1] == number:
                one, two = row.index(slip[2]), row.index(slip[3])
                row[one], row[two] = row[two], row[one]
        heads.append(tuple(row))
        for slip in slips:
            if slip[0] == "mistaken" and slip[1] == number:
                letter = slip[2]
        for spot, change in enumerate(lead_of(method, letter)):
            for slip in slips:
                if slip[0] == "crossed" and slip[1:3] == (number, spot):
                    change = slip[3]
            rows.append(tuple(row))
            row = list(change_row(row, change))
    return rows, heads + [tuple(row)]


def some_slips(chance, method, calling):
    slips = []
    for lead, letter in enumerate(calling):
        told = []
        others = method.letters.replace(letter, "")
        if others and chance.random() < 0.3:
            told.append(("mistaken", lead, chance.choice(others)))
        for spot in range(len(method.plain)):
            if chance.random() < 0.15:
                told.append(("crossed", lead, spot, chance.choice(plain_changes(method.stage))))
        for _ in range(chance.choice((0, 0, 0, 1, 2, 3))):
            told.append(("swapped", lead) + tuple(sorted(chance.sample(range(1, method.stage + 1), 2))))
        chance.shuffle(told)
        slips += told
    return tuple(slips[:20])


def some_ringings():
    chance = random.Random(17)
    for seed in range(300):
        method = some_method(seed)
        calling = "".join(chance.choice(method.letters) for _ in range(chance.randint(0, 6)))
        yield method, calling, some_slips(chance, method, calling)


class Ringings(TouchCase):

    def test_rows_against_a_plain_ringing(self):
        kinds = []
        for method, calling, slips in some_ringings():
            ringing = Ringing(method, calling, slips)
            rows, heads = plain_ringing(method, calling, slips)
            self.assertEqual((ringing.method, ringing.calling, ringing.slips), (method, calling, slips))
            self.assertEqual(list(ringing), rows)
            self.assertEqual(len(ringing), len(rows))
            self.assertEqual([ringing[spot] for spot in range(len(rows))], rows)
            self.assertEqual((ringing.heads, ringing.end), (tuple(heads), heads[-1]))
            kinds += [slip[0] for slip in slips]
        for kind in ("mistaken", "crossed", "swapped"):
            self.assertGreater(kinds.count(kind), 50)

    def test_faults_and_names(self):
        for method, calling, slips in some_ringings():
            ringing = Ringing(method, calling, slips)
            meant = rung(method, calling)[1]
            self.assertEqual(len(ringing.faults), len(calling) + 1)
            for number, (head, told) in enumerate(zip(meant, ringing.heads)):
                fault = ringing.faults[number]
                self.assertEqual(tuple(head[place - 1] for place in fault), told)
                names = ringing.names_at(number)
                self.assertEqual(tuple(names[bell - 1] for bell in head), told)
                self.assertEqual(renamed(head, names), told)

    def test_names_stay_behind_the_last_slip(self):
        for method, calling, slips in some_ringings():
            last = max((slip[1] for slip in slips), default=-1) + 1
            ringing = Ringing(method, calling, slips)
            meant = rung(method, calling)[0]
            names = ringing.names_at(last)
            for spot in range(last * method.size, len(ringing)):
                self.assertEqual(ringing[spot], renamed(meant[spot], names))
            for number in range(last, len(calling) + 1):
                self.assertEqual(ringing.names_at(number), names)

    def test_without_slips(self):
        for method, calling, _ in some_ringings():
            ringing = Ringing(method, calling)
            touch = Touch(method, calling)
            self.assertEqual((ringing.slips, ringing.heads, list(ringing)), ((), touch.heads, list(touch)))
            rounds = tuple(range(1, method.stage + 1))
            self.assertEqual(set(ringing.faults), {rounds})
            self.assertEqual(ringing.unslipped, touch)
        slipped = Ringing(LITTLE, "pp", (("mistaken", 1, "b"),))
        self.assertIsInstance(slipped.unslipped, Touch)
        self.assertEqual(slipped.unslipped, Touch(LITTLE, "pp"))

    def test_swaps_are_done_in_the_order_told(self):
        one, two = ("swapped", 0, 1, 2), ("swapped", 0, 2, 3)
        self.assertEqual(Ringing(LITTLE, "p", (one, two)).heads[0], (3, 1, 2, 4))
        self.assertEqual(Ringing(LITTLE, "p", (two, one)).heads[0], (2, 3, 1, 4))
        self.assertEqual(Ringing(LITTLE, "p", (one, one)).heads[0], (1, 2, 3, 4))
        ringing = Ringing(LITTLE, "pp", (("mistaken", 0, "s"), one, ("crossed", 0, 3, ()), two))
        self.assertEqual(ringing.heads[0], (3, 1, 2, 4))
        # The first rung head is behind the swaps, and so is the first row rung.
        self.assertEqual((ringing[0], ringing.faults[0]), ((3, 1, 2, 4), (3, 1, 2, 4)))

    def test_a_crossed_change_can_be_the_same_one(self):
        change = LITTLE.lead("p")[2]
        same = Ringing(LITTLE, "ps", (("crossed", 0, 2, change),))
        self.assertEqual(list(same), list(Touch(LITTLE, "ps")))
        # It is done instead of the change of the lead that is rung, which is the mistaken one.
        both = Ringing(LITTLE, "p", (("crossed", 0, 7, (1, 4)), ("mistaken", 0, "s")))
        self.assertEqual(both.end, LITTLE.head("b"))

    def test_empty_calling(self):
        ringing = Ringing(LITTLE, "")
        self.assertEqual((ringing.heads, ringing.end, len(ringing), ringing.faults), (
            ((1, 2, 3, 4),), (1, 2, 3, 4), 0, ((1, 2, 3, 4),)))
        self.assertEqual(ringing.names_at(0), (1, 2, 3, 4))
        self.raises(BadSlip, [0], Ringing, LITTLE, "", (("swapped", 0, 1, 2),))

    def test_no_spot(self):
        ringing = Ringing(LITTLE, "pb", (("swapped", 1, 1, 2),))
        for spot in (-1, 16, True, None, "0", 10 ** 39, (0,)):
            self.assertIs(self.raises(NoSpot, [spot], lambda: ringing[spot]).spot, spot)
        for number in (-1, 3, True, None, "0", 10 ** 39):
            self.raises(NoSpot, [number], ringing.names_at, number)
        self.assertEqual(ringing.names_at(2), (2, 1, 3, 4))
        self.assertEqual(len(ringing), 16)

    def test_errors_in_order(self):
        for calling, number in ((None, -1), ("p" * 401, -1), ("pxp", 1), (("p",), -1)):
            self.raises(BadCalling, [number], Ringing, LITTLE, calling, None)
        for slips in (None, "swapped", 3, {}):
            self.raises(BadSlip, [-1], Ringing, LITTLE, "pbs", slips)
        good = ("swapped", 1, 1, 2)
        for slip in (None, (), "swap", ("swapped",), ("swapped", 1), ("swapped", 1, 2), ("swapped", 1, 2, 3, 4),
                     ("Swapped", 1, 1, 2), (None, 1, 1, 2), ("swapped", 3, 1, 2), ("swapped", -1, 1, 2),
                     ("swapped", True, 1, 2), ("swapped", 0, 1, 2), ("swapped", 1, 2, 1), ("swapped", 1, 2, 2),
                     ("swapped", 1, 0, 1), ("swapped", 1, 4, 5), ("swapped", 1, True, 2), ("swapped", 1, 1, None),
                     ("mistaken", 1, "b"), ("mistaken", 1, "a"), ("mistaken", 1, ""), ("mistaken", 1, None),
                     ("mistaken", 1, "ps"), ("mistaken", 3, "p"), ("mistaken", 0, "b"), ("mistaken", 2, "s"),
                     ("mistaken", 1, "p", 0), ("mistaken", 1), ("crossed", 1, 8, ()), ("crossed", 1, -1, ()),
                     ("crossed", 1, True, ()), ("crossed", 1, 0, (1,)), ("crossed", 1, 0, None), ("crossed", 1, 0, (5,)),
                     ("crossed", 1, 0), ("crossed", 1, 0, (), ()), ("crossed", 0, 0, ()), ("crossed", 3, 0, ()),
                     ("crossed", 1, 0, "14"), ("crossed", 1, 0, (True, 4)), ("crossed", 1, 0, (4, 1)), ("swapped", None, 1, 2)):
            self.raises(BadSlip, [2], Ringing, LITTLE, "pbs", (good, good, slip, None))
        self.raises(BadSlip, [0], Ringing, LITTLE, "pbs", (("mistaken", 0, "p"),))

    def test_at_most_one_for_a_lead_or_an_index(self):
        mistaken = ("mistaken", 1, "p")
        crossed = ("crossed", 1, 3, ())
        self.raises(BadSlip, [1], Ringing, LITTLE, "pbs", (mistaken, ("mistaken", 1, "s")))
        self.raises(BadSlip, [2], Ringing, LITTLE, "pbs", (mistaken, crossed, mistaken))
        self.raises(BadSlip, [2], Ringing, LITTLE, "pbs", (crossed, mistaken, ("crossed", 1, 3, (1, 4))))
        several = (mistaken, crossed, ("crossed", 1, 4, ()), ("crossed", 1, 0, (1, 2)), ("swapped", 1, 1, 2),
                   ("swapped", 1, 1, 2), ("mistaken", 2, "p"), ("crossed", 2, 3, ()))
        ringing = Ringing(LITTLE, "pbs", several)
        self.assertEqual(list(ringing), plain_ringing(LITTLE, "pbs", several)[0])

    def test_slips_out_of_order(self):
        later, earlier = ("swapped", 2, 1, 2), ("crossed", 1, 0, ())
        self.raises(BadSlip, [1], Ringing, LITTLE, "pbs", (later, earlier))
        self.raises(BadSlip, [2], Ringing, LITTLE, "pbs", (earlier, later, earlier, None))
        self.assertEqual(len(Ringing(LITTLE, "pbs", (earlier, later)).slips), 2)

    def test_number_of_slips(self):
        swap = ("swapped", 0, 1, 2)
        self.assertEqual(Ringing(LITTLE, "p", (swap,) * 20).heads[0], (1, 2, 3, 4))
        self.assertEqual(Ringing(LITTLE, "p", (swap,) * 19).heads[0], (2, 1, 3, 4))
        self.raises(TooMany, ["slip"], Ringing, LITTLE, "p", (swap,) * 21)
        self.raises(BadSlip, [21], Ringing, LITTLE, "p", (swap,) * 21 + (None,))

    def test_lists(self):
        told = (("mistaken", 0, "s"), ("crossed", 0, 2, (1, 4)), ("swapped", 1, 1, 2))
        slips = listed(told)
        ringing = Ringing(LITTLE, "pb", slips)
        self.assertEqual(slips, listed(told))
        rows = list(ringing)
        spoil(slips)
        self.assertEqual((ringing.slips, list(ringing)), (told, rows))
        self.assertEqual(rows, plain_ringing(LITTLE, "pb", told)[0])

    def test_equal(self):
        told = (("mistaken", 0, "s"), ("swapped", 1, 1, 2))
        ringing = Ringing(LITTLE, "pb", told)
        self.assertTrue(ringing == Ringing(Method(4, LITTLE.plain, LITTLE.calls), "pb", listed(told)))
        # Slips that do the same are others all the same.
        self.assertFalse(Ringing(LITTLE, "p") == Ringing(LITTLE, "p", (("swapped", 0, 1, 2),) * 2))
        self.assertFalse(ringing == Ringing(LITTLE, "pbp", told))
        self.assertFalse(ringing == Ringing(Method(4, LITTLE.plain, LITTLE.calls[::-1]), "pb", told))
        for thing in (None, told, Touch(LITTLE, "pb")):
            self.assertIs(ringing == thing, False)


if __name__ == "__main__":
    unittest.main()
