"""Promise 24: the sheet of a calling for a bell."""

import random
import unittest

from tests.asserts import TouchCase
from tests.samples import FIVE, LITTLE, callings, listed, rung, some_method, spoil
from truetouch.errors import BadBell, BadCalling, BadSheet, TooLong
from truetouch.methods import Method
from truetouch.sheets import read_sheet, write_sheet


def plain_sheet(method, bell, calling):
    places = [head.index(bell) + 1 for head in rung(method, calling)[1]]
    calls = []
    last = -1
    for number, letter in enumerate(calling):
        if letter != "p":
            calls.append((places[number], places[last + 1:number].count(places[number]), letter))
            last = number
    return tuple(calls), len(calling) - last - 1


def plain_read(method, bell, sheet):
    """Rings the leads that a sheet tells, one by one; None if the bell does not come to a place."""
    calling = ""
    row = tuple(range(1, method.stage + 1))

    def lead(letter):
        nonlocal calling, row
        calling += letter
        row = rung(method, letter, row)[1][-1]

    def go_on(place):
        for _ in range(method.stage):
            if row.index(bell) + 1 == place:
                return True
            lead("p")
        return row.index(bell) + 1 == place

    for place, passes, letter in sheet[0]:
        if not go_on(place):
            return None
        for _ in range(passes):
            lead("p")
            go_on(place)
        lead(letter)
    return calling + "p" * sheet[1]


class Sheets(TouchCase):

    def test_written_and_read(self):
        told = set()
        for seed in range(60):
            method = some_method(seed)
            for calling in callings(method.letters, 4):
                for bell in range(1, method.stage + 1):
                    sheet = plain_sheet(method, bell, calling)
                    self.assertEqual(write_sheet(method, bell, calling), sheet)
                    self.assertEqual(read_sheet(method, bell, sheet), calling)
                    self.assertEqual(read_sheet(method, bell, listed(sheet)), calling)
                    told.add(sheet)
        self.assertGreater(len(told), 100)

    def test_each_calling_has_one_sheet(self):
        for bell in range(1, 6):
            sheets = {write_sheet(FIVE, bell, calling) for calling in callings(FIVE.letters, 5)}
            self.assertEqual(len(sheets), len(list(callings(FIVE.letters, 5))))

    def test_read_sheets_are_those_of_their_callings(self):
        chance = random.Random(13)
        read = 0
        for seed in range(200):
            method = some_method(seed)
            if method.letters == "p":
                continue
            calls = tuple((chance.randint(1, method.stage), chance.randint(0, 3),
                           chance.choice(method.letters.replace("p", ""))) for _ in range(chance.randint(0, 4)))
            sheet = (calls, chance.randint(0, 4))
            bell = chance.randint(1, method.stage)
            calling = plain_read(method, bell, sheet)
            if calling is None:
                number = next(at for at in range(len(calls)) if plain_read(method, bell, (calls[:at + 1], 0)) is None)
                self.raises(BadSheet, [number], read_sheet, method, bell, sheet)
            else:
                self.assertEqual(read_sheet(method, bell, sheet), calling)
                self.assertEqual(write_sheet(method, bell, calling), sheet)
                read += 1
        self.assertGreater(read, 40)

    def test_hand_made(self):
        # Plain leads of LITTLE bring the second bell from the second place to the fourth and the third, and back.
        self.assertEqual([head.index(2) + 1 for head in rung(LITTLE, "ppp")[1]], [2, 4, 3, 2])
        for calling, sheet in [("", ((), 0)), ("ppp", ((), 3)), ("b", (((2, 0, "b"),), 0)), ("pb", (((4, 0, "b"),), 0)),
                               ("ppppb", (((4, 1, "b"),), 0)), ("pppspp", (((2, 1, "s"),), 2)),
                               ("bb", (((2, 0, "b"), (2, 0, "b")), 0)), ("pppppppb", (((4, 2, "b"),), 0))]:
            self.assertEqual(write_sheet(LITTLE, 2, calling), sheet)
            self.assertEqual(read_sheet(LITTLE, 2, sheet), calling)
        # The first bell is a hunt: it never leaves the first place.
        self.assertEqual(write_sheet(LITTLE, 1, "ppbps"), (((1, 2, "b"), (1, 1, "s")), 0))
        self.raises(BadSheet, [1], read_sheet, LITTLE, 1, (((1, 2, "b"), (2, 0, "b"), None), 0))

    def test_lengths(self):
        self.assertEqual(read_sheet(LITTLE, 2, ((), 0)), "")
        self.assertEqual(read_sheet(LITTLE, 2, ((), 400)), "p" * 400)
        self.assertEqual(write_sheet(LITTLE, 2, "p" * 400), ((), 400))
        self.assertEqual(write_sheet(LITTLE, 2, "b" * 400), (((2, 0, "b"),) * 400, 0))
        self.assertEqual(read_sheet(LITTLE, 2, (((2, 0, "b"),) * 400, 0)), "b" * 400)
        self.raises(BadSheet, [-1], read_sheet, LITTLE, 2, ((), 401))
        self.raises(TooLong, [401], read_sheet, LITTLE, 2, (((2, 0, "b"),), 400))
        self.raises(TooLong, [401], read_sheet, LITTLE, 2, (((2, 0, "b"),) * 401, 0))
        self.assertEqual(read_sheet(LITTLE, 1, (((1, 399, "b"),), 0)), "p" * 399 + "b")
        self.raises(TooLong, [401], read_sheet, LITTLE, 1, (((1, 400, "b"),), 0))
        self.raises(TooLong, [1201], read_sheet, LITTLE, 2, (((2, 400, "b"),), 0))
        self.raises(TooLong, [1201 * 300 + 7], read_sheet, LITTLE, 2, (((2, 400, "b"),) * 300, 7))
        self.raises(BadSheet, [300], read_sheet, LITTLE, 2, (((2, 400, "b"),) * 300 + ((2, 401, "b"),), 7))

    def test_bad_sheets(self):
        good = (2, 0, "b")
        for sheet in (None, (), ((),), ((), 0, 0), "ab", (None, 0), ("", 0), ((), None), ((), -1), ((), True), ((), "0"),
                      ((None,), 401), 5):
            self.raises(BadSheet, [-1], read_sheet, LITTLE, 2, sheet)
        for call in (None, (), (2, 0), (2, 0, "b", 0), (0, 0, "b"), (5, 0, "b"), (True, 0, "b"), (2, -1, "b"),
                     (2, 401, "b"), (2, True, "b"), (2, 0, "p"), (2, 0, "a"), (2, 0, ""), (2, 0, "bs"), (2, 0, None),
                     (1, 0, "b"), "20b", (2, None, "b"), (None, 0, "b"), ("2", 0, "b")):
            self.raises(BadSheet, [0], read_sheet, LITTLE, 2, ((call, None), 0))
            self.raises(BadSheet, [2], read_sheet, LITTLE, 2, ((good, good, call), 400))

    def test_errors_in_order(self):
        for bell in (0, 5, True, None, "1"):
            self.raises(BadBell, [bell], read_sheet, LITTLE, bell, None)
            self.raises(BadBell, [bell], write_sheet, LITTLE, bell, None)
        self.raises(BadCalling, [-1], write_sheet, LITTLE, 1, None)
        self.raises(BadCalling, [-1], write_sheet, LITTLE, 1, "p" * 401)
        self.raises(BadCalling, [2], write_sheet, LITTLE, 1, "pbxp")

    def test_lists(self):
        sheet = [[[2, 1, "b"], [2, 0, "s"]], 3]
        calling = read_sheet(LITTLE, 2, sheet)
        self.assertEqual(sheet, [[[2, 1, "b"], [2, 0, "s"]], 3])
        spoil(sheet)
        self.assertEqual(calling, "pppbsppp")

    def test_other_plain_leads(self):
        still = Method(3, ((1, 2, 3),), (("b", 0, ((1,),)),))
        self.assertEqual(write_sheet(still, 2, "ppbppb"), (((2, 2, "b"), (3, 2, "b")), 0))
        self.assertEqual(read_sheet(still, 2, (((2, 2, "b"), (3, 2, "b")), 0)), "ppbppb")
        self.raises(BadSheet, [0], read_sheet, still, 2, (((3, 0, "b"),), 0))


if __name__ == "__main__":
    unittest.main()
