"""Promise 2: stages, rows, moves, orders, evenness, cycles."""

import itertools
import unittest

from tests.asserts import TouchCase
from tests.samples import shuffled_rows
from truetouch.errors import BadBell, BadRow, BadStage, Unlike
from truetouch.rows import cycles, is_even, is_row, moved, order, place, renamed, rounds, step, undone

NO_ROWS = [None, 3, "123", (), (1, 2), (1, 2, 4), (1, 1, 3), (0, 1, 2), (True, 2, 3), (1, 2, 3.0), ((1,), 2, 3),
           tuple(range(1, 10)), {1: 2, 2: 1, 3: 3}, (1, 2, None), [1, 2, [3]]]


class Rows(TouchCase):

    def test_is_row(self):
        self.assertIs(is_row((1, 2, 3), 3), True)
        self.assertIs(is_row([3, 1, 2], 3), True)
        self.assertIs(is_row(tuple(range(8, 0, -1)), 8), True)
        self.assertIs(is_row((1, 2, 3), 4), False)
        for thing in NO_ROWS:
            self.assertIs(is_row(thing, 3), False)
        for stage in (2, 9, True, None, "3"):
            self.assertIs(is_row((1, 2), stage), False)

    def test_rounds(self):
        for stage in range(3, 9):
            self.assertEqual(rounds(stage), tuple(range(1, stage + 1)))
        for stage in (2, 9, -3, True, None, "3", 3.0, (3,)):
            self.raises(BadStage, [stage], rounds, stage)

    def test_moved_and_step_and_renamed(self):
        for row, move in itertools.product(shuffled_rows(4), repeat=2):
            led = moved(row, move)
            for at in range(1, 5):
                self.assertEqual(led[at - 1], row[move[at - 1] - 1])
            self.assertEqual(step(row, led), move)
            self.assertEqual(renamed(row, move), tuple(move[bell - 1] for bell in row))
            self.assertEqual(renamed(row, move), moved(move, row))
        self.assertEqual(moved((1, 2, 3, 4), (2, 4, 1, 3)), (2, 4, 1, 3))
        self.assertEqual(moved((4, 1, 2, 3), (2, 4, 1, 3)), (1, 3, 4, 2))
        self.assertEqual(moved([4, 1, 2, 3], [2, 4, 1, 3]), (1, 3, 4, 2))

    def test_renaming_and_moving_in_either_order(self):
        for row, names, move in itertools.product(shuffled_rows(3), repeat=3):
            self.assertEqual(moved(renamed(row, names), move), renamed(moved(row, move), names))

    def test_undone(self):
        for move in shuffled_rows(4):
            self.assertEqual(moved(move, undone(move)), (1, 2, 3, 4))
        self.assertEqual(undone([2, 3, 1]), (3, 1, 2))

    def test_order(self):
        self.assertEqual(order((1, 2, 3)), 1)
        self.assertEqual(order([2, 1, 4, 5, 3]), 6)
        self.assertEqual(order((2, 3, 1, 5, 6, 7, 8, 4)), 15)
        self.assertEqual(order((8, 1, 2, 3, 4, 5, 6, 7)), 8)

    def test_is_even(self):
        self.assertIs(is_even((1, 2, 3)), True)
        self.assertIs(is_even((2, 1, 3)), False)
        self.assertIs(is_even([3, 1, 2]), True)
        for row in shuffled_rows(5):
            pairs = sum(1 for low, high in itertools.combinations(row, 2) if low > high)
            self.assertIs(is_even(row), pairs % 2 == 0)

    def test_place(self):
        self.assertEqual([place([3, 1, 2], bell) for bell in (1, 2, 3)], [2, 3, 1])
        for bell in (0, 4, -1, True, None, "1"):
            self.raises(BadBell, [bell], place, (3, 1, 2), bell)
        self.raises(BadRow, [(1, 1, 2)], place, (1, 1, 2), 9)

    def test_cycles(self):
        self.assertEqual(cycles((1, 2, 3)), ((1,), (2,), (3,)))
        # The bell in the place 2 goes to 1, that in 1 to 3, that in 3 to 2.
        self.assertEqual(cycles((2, 3, 1, 4)), ((1, 3, 2), (4,)))
        for move in shuffled_rows(5):
            told = cycles(move)
            self.assertEqual(sorted(member for cycle in told for member in cycle), [1, 2, 3, 4, 5])
            self.assertEqual([cycle[0] for cycle in told], sorted(min(cycle) for cycle in told))
            for cycle in told:
                for here, there in zip(cycle, cycle[1:] + cycle[:1]):
                    self.assertEqual(move[there - 1], here)

    def test_errors(self):
        for thing in NO_ROWS:
            for deed in (undone, order, is_even, cycles):
                self.assertIs(self.raises(BadRow, [thing], deed, thing).row, thing)
            for deed in (moved, step, renamed):
                self.assertIs(self.raises(BadRow, [thing], deed, thing, (0,)).row, thing)
                self.assertIs(self.raises(BadRow, [thing], deed, (1, 2, 3, 4), thing).row, thing)
        for deed in (moved, step, renamed):
            self.raises(Unlike, ["stage"], deed, (1, 2, 3), (1, 2, 3, 4))

    def test_nothing_passed_is_changed(self):
        row, move = [2, 1, 3], [3, 1, 2]
        for deed in (moved, step, renamed):
            deed(row, move)
        for deed in (undone, order, is_even, cycles):
            deed(move)
        self.assertEqual((row, move), ([2, 1, 3], [3, 1, 2]))


if __name__ == "__main__":
    unittest.main()
