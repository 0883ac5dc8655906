"""Promise 42: blind conductors, hopes, and the judge of a table of hopes."""

import random
import unittest

from tests.asserts import TouchCase
from tests.bandsamples import SPLIT, PlainBand, method_of, some_band
from tests.booksamples import spoilt_tables
from tests.samples import LITTLE, SEVEN, SIX, callings, listed
from truetouch.bands import Band
from truetouch.blind import Blind, judge_hopes
from truetouch.errors import BadCalling, BadRow, TooMany, Unreached
from truetouch.heads import Heads

ROUNDS = (1, 2, 3, 4)

# With 400 hopes and no sure calling, and with 400 others ahead of the empty hope; then with one more each.
FULL = (Band(method_of((2, 4, 3, 1), (2, 3, 1, 4), (1, 3, 2, 4)), (("a", "bp"), ("b", "ap")), None), (1, 4, 2, 3))
FULL_AND_SURE = (Band(method_of((4, 1, 2, 5, 3), (3, 4, 2, 5, 1), (3, 4, 5, 1, 2)), (("b", "ap"),), 4), (1, 4, 5, 2, 3))
MORE = (Band(method_of((1, 2, 4, 3), (4, 1, 2, 3), (1, 3, 4, 2), (3, 2, 1, 4)),
             (("c", "ab"), ("b", "c"), ("a", "p"), ("p", "ac")), None), (3, 1, 4, 2))
MORE_AND_SURE = (Band(method_of((4, 3, 2, 5, 1), (4, 1, 5, 2, 3), (1, 2, 5, 3, 4), (1, 4, 5, 2, 3)),
                      (("c", "bp"), ("b", "ac")), None), (3, 1, 5, 4, 2))


def rounds_of(band):
    return tuple(range(1, band.method.stage + 1))


def hope_by_all_strings(band, row, calling):
    """What can have come behind a calling, by all strings that the band can ring for it."""
    plain = PlainBand(band)
    if row == rounds_of(band):
        return ()
    found = set()
    for string, made in plain.strings(calling):
        heads = plain.heads_rung(string, row)
        if rounds_of(band) not in heads:
            found.add(((heads or [row])[-1], 0 if band.most is None else made))
    return tuple(sorted(found))


def behind(plain, hope, letter):
    return frozenset(node for told in hope for node in plain.behind(told, letter).values())


class PlainHopes:
    """The hopes as sets, level by level, up to so many at least."""

    def __init__(self, band, row, most=500):
        self.plain = PlainBand(band)
        self.rounds = rounds_of(band)
        self.callings = {frozenset(() if row == self.rounds else [(row, 0)]): ""}
        self.sure = "" if row == self.rounds else None
        level = list(self.callings)
        while level and self.sure is None and len(self.callings) <= most:
            onward = []
            for hope in level:
                for letter in band.method.letters:
                    led = frozenset(node for node in behind(self.plain, hope, letter) if node[0] != self.rounds)
                    if led not in self.callings and self.sure is None:
                        self.callings[led] = self.callings[hope] + letter
                        onward.append(led)
                        if not led:
                            self.sure = self.callings[led]
            level = onward

    def table(self):
        return tuple(tuple(sorted(hope)) for hope in self.callings)


def some_starts(many):
    for seed in range(many):
        band = some_band(seed)
        heads = list(Heads(band.method))
        yield band, random.Random(seed).choice(heads)
        yield band, heads[-1]


def is_form(hope, band):
    if not isinstance(hope, (tuple, list)) or not hope:
        return False
    for node in hope:
        if not isinstance(node, (tuple, list)) or len(node) != 2 or not isinstance(node[0], (tuple, list)):
            return False
        if not all(type(bell) is int for bell in node[0]) or sorted(node[0]) != list(rounds_of(band)):
            return False
        if type(node[1]) is not int or not 0 <= node[1] <= (band.most or 0):
            return False
    nodes = [(tuple(row), made) for row, made in hope]
    return nodes == sorted(set(nodes))


def plain_judge(band, row, table):
    plain = PlainBand(band)
    good = [frozenset((tuple(head), made) for head, made in hope) if is_form(hope, band) else None for hope in table]
    if row == rounds_of(band) or frozenset([(row, 0)]) not in good:
        return -1
    for number, hope in enumerate(good):
        if hope is None:
            return number
        for letter in band.method.letters:
            if frozenset(node for node in behind(plain, hope, letter) if node[0] != rounds_of(band)) not in good:
                return number
    return None


class Verdicts(TouchCase):

    def test_against_plain_hopes(self):
        lengths, sizes = set(), set()
        for band, row in some_starts(160):
            plain = PlainHopes(band, row, 150)
            if len(plain.callings) > 150:
                continue
            blind = Blind(band, row)
            self.assertEqual(blind.calling, plain.sure)
            self.assertIs(bool(blind), plain.sure is not None)
            table = None if blind else plain.table()
            self.assertEqual((blind.table, len(blind), list(blind)), (table, len(table or ()), list(table or ())))
            self.assertEqual((blind.band, blind.row), (band, row))
            if table:
                self.assertIsNone(judge_hopes(band, row, table))
                self.assertIsNone(judge_hopes(band, listed(row), listed(table)))
                sizes.add(len(table))
            else:
                lengths.add(len(blind.calling))
        self.assertTrue({0, 1, 2, 3, 4} <= lengths, lengths)
        self.assertGreater(len(sizes), 8)

    def test_against_all_strings_that_can_be_rung(self):
        chance = random.Random(1)
        kinds = set()
        for band, row in some_starts(70):
            try:
                blind = Blind(band, row)
            except TooMany:
                continue
            for _ in range(4):
                calling = "".join(chance.choice(band.method.letters) for _ in range(chance.randint(0, 4)))
                hope = blind.hope(calling)
                self.assertEqual(hope, hope_by_all_strings(band, row, calling))
                kinds.add(len(hope) > 0)
            if blind and len(blind.calling) <= 4:
                self.assertEqual(blind.hope(blind.calling), ())
                shorter = [calling for calling in callings(band.method.letters, len(blind.calling))
                           if hope_by_all_strings(band, row, calling) == ()]
                self.assertEqual(shorter[0], blind.calling)
        self.assertEqual(kinds, {True, False})

    def test_rounds_as_the_row(self):
        blind = Blind(Band(LITTLE, (("p", "b"),), 1), [1, 2, 3, 4])
        self.assertEqual((bool(blind), blind.calling, blind.table, len(blind), blind.row), (True, "", None, 0, ROUNDS))
        for calling in ("", "p", "pbs"):
            self.assertEqual(blind.hope(calling), ())

    def test_hopes_by_hand(self):
        blind = Blind(Band(LITTLE, (("p", "b"),), 1), (1, 4, 2, 3))
        self.assertEqual(blind.hope(""), (((1, 4, 2, 3), 0),))
        # A plain lead brings the bells to rounds, a bob leaves the head as it was.
        self.assertEqual(blind.hope("p"), (((1, 4, 2, 3), 1),))
        self.assertEqual(blind.hope("pp"), ())
        self.assertEqual(blind.hope("pp" + "s" * 398), ())
        self.assertEqual((blind.calling, bool(blind)), ("pp", True))

    def test_number_of_hopes(self):
        blind = Blind(*FULL)
        self.assertEqual((bool(blind), len(blind)), (False, 400))
        self.assertEqual(len(PlainHopes(*FULL).callings), 400)
        self.assertIsNone(judge_hopes(*FULL, blind.table))
        blind = Blind(*FULL_AND_SURE)
        self.assertEqual((blind.calling, blind.table), ("aapapp", None))
        self.assertEqual(len(PlainHopes(*FULL_AND_SURE).callings), 401)
        for told in (MORE, MORE_AND_SURE):
            self.assertGreaterEqual(len(PlainHopes(*told).callings), 401)
            self.raises(TooMany, ["set"], Blind, *told)
        # More hopes than are listed are judged all the same.
        table = PlainHopes(*MORE).table()
        self.assertEqual(len(table), 401)
        self.assertIsNone(judge_hopes(*MORE, table))
        self.assertEqual(judge_hopes(*MORE, table[:-1]), plain_judge(*MORE, table[:-1]))

    def test_errors_in_order(self):
        wrong = (None, (2, 1, 3, 4), [2, 1, 3, 4], (1, 2, 3), (True, 2, 3, 4), "1234", (), 0)
        for row in wrong:
            self.assertIs(self.raises(Unreached, [row], Blind, Band(LITTLE, (), 1), row).row, row)
        for row in (None, (1, 2, 3)):
            self.raises(TooMany, ["head"], Blind, Band(SEVEN, (), 4), row)
            self.raises(TooMany, ["node"], Blind, Band(SIX, (), 1), row)
            self.raises(TooMany, ["node"], Blind, Band(SPLIT, (), 4), row)
        self.raises(Unreached, [(1, 2, 3)], Blind, Band(SPLIT, (), 3), (1, 2, 3))
        self.raises(TooMany, ["set"], Blind, Band(SIX, (("b", "s"), ("p", "b")), None), (2, 1, 3, 4, 5, 6))
        blind = Blind(Band(LITTLE, (), 1), (1, 3, 4, 2))
        for calling, number in ((None, -1), ("p" * 401, -1), ("pxp", 1), (("p",), -1)):
            self.raises(BadCalling, [number], blind.hope, calling)
        for row in wrong[:1] + wrong[3:]:
            self.assertIs(self.raises(BadRow, [row], judge_hopes, Band(SEVEN, (), 4), row, None).row, row)

    def test_by_turns(self):
        told = [told for told in some_starts(20) if len(PlainHopes(*told, 100).callings) <= 100]
        blinds = [Blind(*arguments) for arguments in told]
        for blind, arguments in zip(blinds, told):
            letter = arguments[0].method.letters[0]
            hope = blind.hope(letter * 3)
            alone = Blind(*arguments)
            self.assertEqual((blind.table, blind.calling, hope), (alone.table, alone.calling, alone.hope(letter * 3)))
            self.assertEqual(blind.hope(letter * 3), hope)


class Tables(TouchCase):

    def test_spoilt_tables(self):
        results = set()
        chance = random.Random(6)
        for band, row in some_starts(90):
            plain = PlainHopes(band, row, 25)
            table = plain.table()
            if len(table) > 25:
                continue
            rounds = rounds_of(band)
            node = (row, 0)
            others = [None, (), "hope", (node, node), ((row, 9),), ((row, True),), ((row, -1),), ((row[1:], 0),), (row,), ((rounds, 0),),
                      ((row, 0, 0),), ((rounds, 0), (rounds[::-1], 0)), ((rounds[::-1], 0), (rounds, 0)), ((rounds[::-1], 0),),
                      (None,), ((row, None),), ((row, 1),), (node, None), (node, (row, 9)), (None, node)]
            others += list(table)
            for told in spoilt_tables(table, chance, others):
                wanted = plain_judge(band, row, told)
                self.assertEqual(judge_hopes(band, row, tuple(told)), wanted)
                self.assertEqual(judge_hopes(band, row, listed(tuple(told))), wanted)
                results.add(wanted)
        self.assertGreater(len(results), 6)
        self.assertIn(None, results)

    def test_from_rounds_nothing_is_closed(self):
        band = Band(LITTLE, (), 0)
        for table in ((), (((ROUNDS, 0),),), ((),), None, (((ROUNDS, 0),), (((1, 3, 4, 2), 0),))):
            self.assertEqual(judge_hopes(band, ROUNDS, table), -1)
        for thing in (None, "table", 3, {}):
            self.assertEqual(judge_hopes(band, (1, 3, 4, 2), thing), -1)

    def test_rounds_within_a_hope_goes_on(self):
        # From rounds a plain lead leads away from it again.
        band = Band(method_of((2, 1, 3)), (), 0)
        self.assertEqual(judge_hopes(band, (2, 1, 3), ((((2, 1, 3), 0),),)), 0)
        self.assertEqual(judge_hopes(band, (1, 3, 2), ((((1, 3, 2), 0),), (((3, 1, 2), 0),))), None)
        told = ((((1, 3, 2), 0),), (((3, 1, 2), 0),), (((1, 2, 3), 0), ((1, 3, 2), 0)))
        self.assertEqual(judge_hopes(band, (1, 3, 2), told), 2)
        self.assertEqual(judge_hopes(band, (1, 3, 2), told + ((((2, 1, 3), 0), ((3, 1, 2), 0)),)), None)

    def test_many_heads_do_not_matter(self):
        band = Band(SEVEN, (), 4)
        row = (2, 1, 3, 4, 5, 6, 7)
        self.assertEqual(judge_hopes(band, row, (((row, 0),),)), 0)
        self.assertEqual(judge_hopes(band, row, ()), -1)


if __name__ == "__main__":
    unittest.main()
