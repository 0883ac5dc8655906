"""Promise 41: seeing conductors, their plans, the answers of the band, plays, and the judge of values."""

import random
import unittest

from tests.asserts import TouchCase
from tests.bandsamples import SPLIT, PlainBand, some_band
from tests.booksamples import spoilt_tables
from tests.samples import LITTLE, SEVEN, SIX, listed
from truetouch.bands import Band
from truetouch.errors import BadLetter, BadRung, NoValue, TooMany, Unreached
from truetouch.methods import Method
from truetouch.seeing import Seeing, judge_seeing

BANDS = [band for band in map(some_band, range(90)) if band.method.stage < 5]
ROUNDS = (1, 2, 3, 4)


class PlainGame:
    """The game of a band, by looking ahead so many leads."""

    def __init__(self, band):
        self.band = PlainBand(band)
        self.letters = band.method.letters
        self.rounds = tuple(range(1, band.method.stage + 1))
        self.nodes = band.nodes()
        self.behind = {(node, letter): self.band.behind(node, letter) for node in self.nodes for letter in self.letters}
        self.kept = {}

    def is_won_within(self, node, leads):
        if node[0] == self.rounds:
            return True
        if leads == 0:
            return False
        if (node, leads) not in self.kept:
            self.kept[node, leads] = any(
                all(self.is_won_within(onward, leads - 1) for onward in self.behind[node, letter].values())
                for letter in self.letters)
        return self.kept[node, leads]

    def value(self, node):
        return next((leads for leads in range(len(self.nodes) + 1) if self.is_won_within(node, leads)), -1)


def is_form(row, nodes):
    return (isinstance(row, (tuple, list)) and len(row) == 3 and isinstance(row[0], (tuple, list))
            and all(type(bell) is int for bell in row[0]) and type(row[1]) is int and (tuple(row[0]), row[1]) in nodes
            and type(row[2]) is int and row[2] >= -1)


def plain_judge(game, table):
    good = [(tuple(row[0]), row[1], row[2]) if is_form(row, game.nodes) else None for row in table]
    values = {}
    for row in good:
        if row:
            values.setdefault(row[:2], row[2])
    if len(values) < len(game.nodes):
        return -1
    for number, row in enumerate(good):
        if row is None:
            return number
        told = [[values[onward] for onward in game.behind[row[:2], letter].values()] for letter in game.letters]
        if row[0] == game.rounds or row[2] == 0:
            is_right = row[0] == game.rounds and row[2] == 0
        elif all(-1 in behind for behind in told):
            is_right = row[2] == -1
        else:
            is_right = row[2] == 1 + min(max(behind) for behind in told if -1 not in behind)
        if not is_right:
            return number
    return None


class Values(TouchCase):

    def test_against_looking_ahead(self):
        values = set()
        for band in BANDS:
            game = PlainGame(band)
            seeing = Seeing(band)
            table = tuple((row, made, game.value((row, made))) for row, made in game.nodes)
            self.assertEqual((seeing.table, len(seeing), list(seeing)), (table, len(table), list(table)))
            self.assertIs(seeing.band, band)
            self.assertEqual(seeing.trap, tuple((row, made) for row, made, value in table if value == -1))
            for row, made, value in table:
                self.assertEqual(seeing.value(row, made), value)
                self.assertEqual(seeing.value(list(row), made), value)
            self.assertEqual(seeing.value(game.rounds), 0)
            self.assertIsNone(judge_seeing(band, table))
            self.assertIsNone(judge_seeing(band, listed(table)))
            values |= {value for _, _, value in table}
        self.assertTrue({-1, 0, 1, 2, 3, 4} <= values, values)

    def test_plans_and_answers(self):
        for band in BANDS:
            game = PlainGame(band)
            seeing = Seeing(band)
            values = {(row, made): value for row, made, value in seeing}
            for (row, made), value in values.items():
                worst = {letter: max((values[onward] for onward in game.behind[(row, made), letter].values()),
                                     key=lambda worth: (worth == -1, worth)) for letter in game.letters}
                if value == -1:
                    self.raises(NoValue, [row], seeing.plan, row, made)
                elif value == 0:
                    self.assertIsNone(seeing.plan(row, made))
                else:
                    plan = next(letter for letter in game.letters if worst[letter] == value - 1)
                    self.assertEqual(seeing.plan(row, made), plan)
                for letter in game.letters:
                    behind = game.behind[(row, made), letter]
                    wanted = min(told for told in behind if values[behind[told]] == worst[letter])
                    self.assertEqual(seeing.answer(row, made, letter), wanted)

    def test_plays_end_in_time(self):
        lengths = set()
        chance = random.Random(3)
        for band in BANDS:
            game = PlainGame(band)
            seeing = Seeing(band)
            for row, made, value in seeing:
                if made == 0 and value > 0:
                    node, called, letters = (row, 0), "", ""
                    is_worst = chance.random() < 0.5
                    while node[0] != game.rounds:
                        self.assertLess(len(called), value)
                        self.assertEqual(seeing.play(row, letters), (called, node))
                        call = seeing.plan(*node)
                        behind = game.behind[node, call]
                        letter = seeing.answer(node[0], node[1], call) if is_worst else chance.choice(sorted(behind))
                        called, letters, node = called + call, letters + letter, behind[letter]
                    self.assertEqual(seeing.play(row, letters), (called, node))
                    # By the answers the band holds out as long as the value tells.
                    self.assertTrue(not is_worst or len(letters) == value)
                    self.raises(BadRung, [len(letters)], seeing.play, row, letters + game.letters[0])
                    lengths.add(len(letters))
        self.assertTrue({1, 2, 3} <= lengths, lengths)

    def test_wrong_rung(self):
        band = Band(LITTLE, (("p", "b"),), 1)
        seeing = Seeing(band)
        row = (1, 4, 2, 3)
        self.assertEqual((seeing.value(row), seeing.plan(row)), (2, "p"))
        self.assertEqual(seeing.play(row, ""), ("", (row, 0)))
        self.assertEqual(seeing.play(list(row), "p"), ("p", (ROUNDS, 0)))
        self.assertEqual(seeing.play(row, "bp"), ("pp", (ROUNDS, 1)))
        self.assertEqual(seeing.play(ROUNDS, ""), ("", (ROUNDS, 0)))
        for letters, number in ((None, -1), (("p",), -1), (0, -1), (["p"], -1), ("s", 0), ("x", 0), ("bb", 1), ("bpp", 2), ("pp", 1),
                                ("bs", 1), ("b ", 1)):
            self.raises(BadRung, [number], seeing.play, row, letters)
        self.raises(BadRung, [0], seeing.play, ROUNDS, "p")

    def test_no_node(self):
        band = Band(LITTLE, (), 1)
        seeing = Seeing(band)
        for row in (None, (2, 1, 3, 4), [2, 1, 3, 4], (1, 2, 3), (True, 2, 3, 4), "1234", (), 0):
            self.assertIs(self.raises(Unreached, [row], seeing.value, row).row, row)
            self.raises(Unreached, [row], seeing.plan, row)
            self.raises(Unreached, [row], seeing.answer, row, 0, "x")
            self.raises(Unreached, [row], seeing.play, row, None)
        for made in (2, -1, True, None, "0", 10 ** 39):
            self.raises(Unreached, [ROUNDS], seeing.value, ROUNDS, made)
            self.raises(Unreached, [ROUNDS], seeing.plan, ROUNDS, made)
            self.raises(Unreached, [ROUNDS], seeing.answer, ROUNDS, made, "x")
        self.raises(Unreached, [ROUNDS], Seeing(Band(LITTLE, (), None)).value, ROUNDS, 1)
        self.assertEqual(seeing.value(ROUNDS, 1), 0)
        for letter in ("x", "", None, "pb", 0):
            self.raises(BadLetter, [letter], seeing.answer, ROUNDS, 0, letter)

    def test_no_value(self):
        # A plain lead is always misheard as a bob, and nothing else leads on.
        method = Method(3, ((1,),), (("b", 0, ((1, 2, 3),)),))
        seeing = Seeing(Band(method, (("p", "b"),), None))
        row = (1, 3, 2)
        self.assertEqual(seeing.table, (((1, 2, 3), 0, 0), (row, 0, -1)))
        self.assertEqual(seeing.trap, ((row, 0),))
        self.assertIs(self.raises(NoValue, [row], seeing.plan, row).row, row)
        self.raises(NoValue, [row], seeing.play, row, None)
        self.raises(NoValue, [[1, 3, 2]], seeing.play, [1, 3, 2], "p")
        self.assertEqual((seeing.answer(row, 0, "p"), seeing.answer((1, 2, 3), 0, "p")), ("b", "p"))

    def test_number_of_nodes(self):
        self.assertEqual(len(Seeing(Band(SPLIT, (("a", "b"),), 3))), 960)
        for band, word in ((Band(SPLIT, (), 4), "node"), (Band(SIX, (), 1), "node"), (Band(SEVEN, (), 4), "head")):
            self.raises(TooMany, [word], Seeing, band)
            self.raises(TooMany, [word], judge_seeing, band, None)
        self.assertEqual(len(Seeing(Band(SIX, (("b", "p"),), 0))), 720)

    def test_by_turns(self):
        seeings = [Seeing(band) for band in BANDS[:20]]
        for seeing, band in zip(seeings, BANDS):
            alone = Seeing(band)
            self.assertEqual((seeing.table, seeing.trap), (alone.table, alone.trap))


class Tables(TouchCase):

    def test_spoilt_tables(self):
        results = set()
        chance = random.Random(5)
        for band in BANDS:
            game = PlainGame(band)
            table = Seeing(band).table
            if len(table) > 30:
                continue
            rounds = game.rounds
            others = [None, (), "row", (rounds, 0), (rounds, 0, True), (rounds, True, 0), (rounds, 0, -2), (rounds, 0, 0, 0),
                      (rounds, 5, 0), (rounds, -1, 0), (rounds, 0, None), (None, 0, 0), (rounds[1:], 0, 0), (rounds, 1, 0),
                      (rounds[::-1], 0, 1), (rounds, 0, 10 ** 39)]
            others += [(row, made, value + more) for row, made, value in table for more in (-1, 1)]
            for told in spoilt_tables(table, chance, others):
                wanted = plain_judge(game, told)
                self.assertEqual(judge_seeing(band, tuple(told)), wanted)
                self.assertEqual(judge_seeing(band, listed(tuple(told))), wanted)
                results.add(wanted)
        self.assertGreater(len(results), 6)
        self.assertIn(None, results)

    def test_hand_made(self):
        band = Band(LITTLE, (("p", "b"),), 1)
        table = Seeing(band).table
        for thing in (None, (), "table", 3, {}, table[1:], table[:-1]):
            self.assertEqual(judge_seeing(band, thing), -1)
        # The first of several rows for one node tells its value, but each row is judged by its own.
        other = table[-1][:2] + (table[-1][2] + 1,)
        self.assertEqual(judge_seeing(band, table + (other,)), len(table))
        self.assertIsNone(judge_seeing(band, table + table))
        # A row that is no head makes no node.
        self.assertEqual(judge_seeing(band, table + (((2, 1, 3, 4), 0, 1),)), len(table))


if __name__ == "__main__":
    unittest.main()
