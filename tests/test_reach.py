"""Promise 9: menus, words, reached rows, classes, and tables that show that no word leads to a goal."""

import itertools
import random
import unittest

from tests.asserts import TouchCase
from tests.samples import LITTLE, callings, change_row, listed, shuffled_rows, some_method, spoil
from truetouch.errors import BadChange, BadMenu, BadRow, BadStage, TooMany, Unreached
from truetouch.reach import Reach, judge_apart
from truetouch.rows import moved, rounds, step

TURN = (("b", (2, 3, 1)), ("a", (3, 1, 2)))
PAIR = ((1, 2, 3, 4), (2, 1, 3, 4))
SWAP = (("z", (2, 1, 3, 4)), ("p", (1, 2, 3, 4)))


def led(row, menu, word):
    for letter in word:
        row = moved(row, dict(menu)[letter])
    return row


def least_by_trying(stage, menu, most):
    found = {}
    for word in callings("".join(letter for letter, _ in menu), most):
        found.setdefault(led(rounds(stage), menu, word), word)
    return found


class Reached(TouchCase):

    def test_least_words(self):
        for seed in range(20):
            chance = random.Random(seed)
            stage = chance.choice((3, 4))
            letters = chance.sample("abcpxyz", chance.randint(1, 3))
            menu = tuple((letter, chance.choice(shuffled_rows(stage))) for letter in letters)
            reach = Reach(stage, menu)
            found = least_by_trying(stage, menu, 6)
            told = {row: reach[row] for row in reach}
            self.assertEqual([(row, told[row]) for row in told if len(told[row]) <= 6], list(found.items()))
            self.assertEqual(len(reach), len(told))
            for row in told:
                self.assertEqual(led(rounds(stage), menu, told[row]), row)
                for _, move in menu:
                    self.assertIn(moved(row, move), reach)
            longest = max(len(word) for word in told.values())
            self.assertEqual(reach.farthest, tuple(row for row in told if len(told[row]) == longest))

    def test_order_of_the_menu_does_not_matter_for_words(self):
        reach = Reach(3, TURN)
        self.assertEqual((reach.stage, reach.menu), (3, TURN))
        self.assertEqual(list(reach), [(1, 2, 3), (3, 1, 2), (2, 3, 1)])
        self.assertEqual([reach[row] for row in reach], ["", "a", "b"])
        self.assertEqual(reach.farthest, ((3, 1, 2), (2, 3, 1)))

    def test_classes_and_words_between(self):
        for seed in range(8):
            chance = random.Random(seed)
            menu = tuple((letter, chance.choice(shuffled_rows(4))) for letter in "ab"[:chance.randint(1, 2)])
            reach = Reach(4, menu)
            for first in shuffled_rows(4)[::3]:
                self.assertEqual(reach.class_of(list(first)), tuple(sorted(moved(first, row) for row in reach)))
                for second in shuffled_rows(4)[::4]:
                    move = step(first, second)
                    if move in reach:
                        word = reach.word_between(first, list(second))
                        self.assertEqual(led(first, menu, word), second)
                        self.assertEqual(word, reach[move])
                        self.assertEqual(reach.class_of(first), reach.class_of(second))
                    else:
                        self.raises(Unreached, [move], reach.word_between, first, second)
                        self.assertNotIn(second, reach.class_of(first))

    def test_not_reached(self):
        reach = Reach(4, SWAP)
        self.assertIs([2, 1, 3, 4] in reach, True)
        self.assertEqual(reach[[2, 1, 3, 4]], "z")
        for row in ((1, 2, 4, 3), (1, 2, 3), None, "2134", (True, 2, 3, 4), [[2], 1, 3, 4]):
            self.assertIs(row in reach, False)
            self.assertIs(self.raises(Unreached, [row], lambda: reach[row]).row, row)
        for row in ((1, 2, 3), None, (1, 2, 3, 3)):
            self.raises(BadRow, [row], reach.word_between, row, 7)
            self.raises(BadRow, [row], reach.word_between, (1, 2, 3, 4), row)
            self.raises(BadRow, [row], reach.class_of, row)

    def test_by_method_and_by_changes(self):
        reach = Reach.by_method(LITTLE)
        self.assertEqual(reach.menu, tuple((letter, LITTLE.head(letter)) for letter in "bps"))
        self.assertEqual(reach.stage, 4)
        for seed in range(10):
            method = some_method(seed)
            self.assertEqual([pair[0] for pair in Reach.by_method(method).menu], sorted(method.letters))
        reach = Reach.by_changes(4, [[1, 4], []])
        self.assertEqual(reach.menu, (("a", (1, 3, 2, 4)), ("b", (2, 1, 4, 3))))
        self.assertEqual(len(reach), 8)
        eight = [(1, 8), (1, 2), (1, 4), (3, 4), (5, 6), (1, 2, 3, 4, 5, 6), (7, 8), ()]
        self.raises(TooMany, ["row"], Reach.by_changes, 8, eight)
        self.raises(BadStage, [9], Reach.by_changes, 9, None)
        for thing in (None, (), [], "x", 3, [()] * 9):
            self.raises(BadMenu, [-1], Reach.by_changes, 4, thing)
        for thing, bad in [(((), (2,)), (2,)), (((1, 4), [1, 4]), [1, 4]), (((), None, ()), None), (["x"], "x")]:
            self.raises(BadChange, [bad], Reach.by_changes, 4, thing)

    def test_menus_of_one_and_eight_pairs(self):
        self.assertEqual(list(Reach(3, [["q", [1, 2, 3]]])), [(1, 2, 3)])
        rows = shuffled_rows(4)
        menu = tuple((letter, rows[at]) for at, letter in enumerate("hgfedcba"))
        self.assertEqual(len(Reach(4, menu)), 24)
        self.raises(BadMenu, [-1], Reach, 4, menu + (("i", rows[9]),))
        self.raises(BadMenu, [-1], Reach, 4, ())

    def test_errors(self):
        for stage in (2, 9, True, None):
            self.raises(BadStage, [stage], Reach, stage, None)
            self.raises(BadStage, [stage], judge_apart, stage, None, None, None, None)
        for menu in (None, "a", 3, {}):
            self.raises(BadMenu, [-1], Reach, 3, menu)
            self.raises(BadMenu, [-1], judge_apart, 3, menu, None, None, None)
        for pair in (None, "a", ("a",), ("a", (1, 2, 3), 3), ("A", (1, 2, 3)), ("", (1, 2, 3)), ("ab", (1, 2, 3)),
                     (1, (1, 2, 3)), ("a", (1, 2)), ("a", (1, 2, 3, 4)), ("a", (1, 2, 2)), ("a", "123"),
                     ("b", (3, 1, 2)), ("a", (True, 2, 3))):
            self.raises(BadMenu, [1], Reach, 3, (TURN[0], pair, None))
            self.raises(BadMenu, [1], judge_apart, 3, (TURN[0], pair), None, None, None)

    def test_as_many_rows_as_are_let(self):
        swap, turn = (2, 1, 3, 4, 5, 6), (2, 3, 4, 5, 6, 1)
        self.assertEqual(len(Reach(6, (("a", swap), ("b", turn)))), 720)
        # Two groups of 4 bells, which can change places: 1152 rows.
        self.raises(TooMany, ["row"], Reach, 8, (("a", (2, 1, 3, 4, 5, 6, 7, 8)), ("b", (2, 3, 4, 1, 5, 6, 7, 8)),
                                                 ("c", (5, 6, 7, 8, 1, 2, 3, 4))))
        self.raises(TooMany, ["row"], Reach, 7, (("a", swap + (7,)), ("b", (2, 3, 4, 5, 6, 7, 1))))

    def test_lists(self):
        menu = listed(TURN)
        reach = Reach(3, menu)
        self.assertEqual(menu, listed(TURN))
        spoil(menu)
        self.assertEqual(reach.menu, TURN)
        self.assertEqual(len(reach), 3)


class Apart(TouchCase):

    def test_right_tables(self):
        goal = (1, 2, 4, 3)
        for table in (PAIR, PAIR[::-1], PAIR * 2, PAIR + ((3, 4, 1, 2), (4, 3, 1, 2))):
            for told in (table, listed(table)):
                self.assertIsNone(judge_apart(4, SWAP, (1, 2, 3, 4), goal, told))
                self.assertIsNone(judge_apart(4, listed(SWAP), [1, 2, 3, 4], list(goal), told))

    def test_what_is_reached_is_a_right_table(self):
        for seed in range(10):
            chance = random.Random(seed)
            menu = tuple((letter, chance.choice(shuffled_rows(4))) for letter in "ab"[:chance.randint(1, 2)])
            reach = Reach(4, menu)
            start = chance.choice(shuffled_rows(4))
            table = reach.class_of(start)
            for goal in shuffled_rows(4):
                self.assertEqual(judge_apart(4, menu, start, goal, table), -2 if goal in table else None)
            for left_out in table:
                rest = tuple(row for row in table if row != left_out)
                goal = next((row for row in shuffled_rows(4) if row not in table), None)
                if goal is not None:
                    wanted = -1 if left_out == start else next(
                        number for number, row in enumerate(rest)
                        if any(moved(row, move) == left_out for _, move in menu))
                    self.assertEqual(judge_apart(4, menu, start, goal, rest), wanted)

    def test_wrong_tables(self):
        start, goal = (1, 2, 3, 4), (1, 2, 4, 3)
        for table, wanted in [((), -1), ([], -1), (PAIR[1:], -1), (PAIR + (goal,), -2), ((goal,), -1), (PAIR[:1], 0),
                              (((4, 3, 2, 1),) + PAIR, 0), (PAIR + ((4, 3, 2, 1),), 2), ((None,) + PAIR, 0),
                              (PAIR + ("2134",), 2), (PAIR[:1] + ((2, 1, 3, 4, 5),), 0), (((True, 2, 3, 4), PAIR[1]), -1),
                              (PAIR[:1] + ((2, True, 3, 4),), 0), (PAIR + ((1, 2, 3),), 2), (PAIR + (3,), 2)]:
            self.assertEqual(judge_apart(4, SWAP, start, goal, table), wanted, table)
            self.assertEqual(judge_apart(4, SWAP, start, goal, listed(table)), wanted, table)

    def test_start_that_is_the_goal(self):
        self.assertEqual(judge_apart(4, SWAP, PAIR[0], PAIR[0], PAIR), -2)
        self.assertEqual(judge_apart(4, SWAP, PAIR[0], PAIR[0], ()), -1)

    def test_errors(self):
        for row in ((1, 2, 3), None, (1, 2, 3, 3), "1234"):
            self.raises(BadRow, [row], judge_apart, 4, SWAP, row, 3, PAIR)
            self.raises(BadRow, [row], judge_apart, 4, SWAP, (1, 2, 3, 4), row, PAIR)

    def test_changes_lead_as_they_are_made(self):
        reach = Reach.by_changes(5, ((5,), (1,), (1, 2, 3)))
        start = rounds(5)
        for word in itertools.islice(callings("abc", 4), 60):
            row = start
            for letter in word:
                row = change_row(row, ((5,), (1,), (1, 2, 3))["abc".index(letter)])
            self.assertEqual(led(start, reach.menu, word), row)


if __name__ == "__main__":
    unittest.main()
