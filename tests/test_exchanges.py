"""Promise 33: exchanges of any bells, and of those in neighbouring places."""

import itertools
import random
import unittest

from tests.asserts import TouchCase
from tests.samples import listed, shuffled_rows
from truetouch.errors import BadBell, BadRow, Unlike
from truetouch.exchanges import exchanged, exchanges, neighbour_exchanges


def done(row, pair):
    row = list(row)
    first, second = row.index(pair[0]), row.index(pair[1])
    row[first], row[second] = row[second], row[first]
    return tuple(row)


def distances(goal, neighbours):
    """For each row the fewest exchanges that lead from it to the goal, by trying all exchanges."""
    found = {goal: 0}
    waiting = [goal]
    for row in waiting:
        for first, second in itertools.combinations(range(len(row)), 2):
            if second == first + 1 or not neighbours:
                led = done(row, (row[first], row[second]))
                if led not in found:
                    found[led] = found[row] + 1
                    waiting.append(led)
    return found


def told_by_hand(row, goal, neighbours):
    told = []
    if not neighbours:
        for place in range(len(row)):
            if row[place] != goal[place]:
                told.append(tuple(sorted((row[place], goal[place]))))
                row = done(row, told[-1])
        return tuple(told)
    while row != goal:
        for place in range(len(row) - 1):
            if goal.index(row[place]) > goal.index(row[place + 1]):
                told.append(tuple(sorted(row[place:place + 2])))
                row = done(row, told[-1])
                break
    return tuple(told)


class Exchanges(TouchCase):

    def test_fewest_and_as_told(self):
        for stage in (3, 4, 5):
            goals = shuffled_rows(stage) if stage < 5 else random.Random(1).sample(shuffled_rows(5), 6)
            for goal in goals:
                for neighbours, told in ((False, exchanges), (True, neighbour_exchanges)):
                    for row, number in distances(goal, neighbours).items():
                        pairs = told(row, goal)
                        self.assertEqual(len(pairs), number)
                        self.assertEqual(pairs, told_by_hand(row, goal, neighbours))
                        self.assertEqual(exchanged(row, *pairs), goal)

    def test_great_stages(self):
        row = (8, 7, 6, 5, 4, 3, 2, 1)
        rounds = row[::-1]
        self.assertEqual(exchanges(row, rounds), ((1, 8), (2, 7), (3, 6), (4, 5)))
        self.assertEqual(len(neighbour_exchanges(row, rounds)), 28)
        self.assertEqual(neighbour_exchanges(row, rounds)[:4], ((7, 8), (6, 8), (6, 7), (5, 8)))
        self.assertEqual(exchanges(rounds, rounds), ())
        self.assertEqual(neighbour_exchanges(row, row), ())

    def test_smaller_bell_first(self):
        self.assertEqual(exchanges((3, 1, 2), (1, 2, 3)), ((1, 3), (2, 3)))
        self.assertEqual(neighbour_exchanges((2, 3, 1), (1, 2, 3)), ((1, 3), (1, 2)))
        self.assertEqual(neighbour_exchanges((1, 2, 3), (3, 2, 1)), ((1, 2), (1, 3), (2, 3)))

    def test_exchanged(self):
        self.assertEqual(exchanged((2, 1, 3)), (2, 1, 3))
        self.assertEqual(exchanged((2, 1, 3), (1, 2), (2, 3)), (1, 3, 2))
        self.assertEqual(exchanged([2, 1, 3], [1, 2], (2, 3)), (1, 3, 2))
        self.assertEqual(exchanged((2, 1, 3), (1, 2), (1, 2)), (2, 1, 3))

    def test_lists(self):
        row, goal, pair = [3, 1, 2], [1, 2, 3], [1, 3]
        self.assertEqual(exchanges(row, goal), exchanges((3, 1, 2), (1, 2, 3)))
        self.assertEqual(neighbour_exchanges(row, goal), ((1, 3), (2, 3)))
        self.assertEqual(exchanged(row, pair), (1, 3, 2))
        self.assertEqual((row, goal, pair), ([3, 1, 2], [1, 2, 3], [1, 3]))

    def test_wrong_rows(self):
        good = (2, 1, 3)
        for row in ((), (1, 2), (1, 2, 2), (0, 1, 2), (1, 2, 4), (True, 2, 3), "123", None, 3, (1, 2, 3, 4, 5, 6, 7, 8, 9),
                    (1, 2, None), [1, 1, 2]):
            for told in (exchanges, neighbour_exchanges):
                self.assertIs(self.raises(BadRow, [row], told, row, good).row, row)
                self.assertIs(self.raises(BadRow, [row], told, row, None).row, row)
                self.assertIs(self.raises(BadRow, [row], told, good, row).row, row)
            self.assertIs(self.raises(BadRow, [row], exchanged, row, (2, 1)).row, row)
        for told in (exchanges, neighbour_exchanges):
            self.raises(Unlike, ["stage"], told, good, (1, 2, 3, 4))
            self.raises(BadRow, [(1, 2, 3, 3)], told, good, (1, 2, 3, 3))

    def test_wrong_pairs(self):
        for pair in ((2, 1), (1, 1), (1, 4), (0, 1), (1,), (1, 2, 3), (), None, 1, "12", (True, 2), (1, None), [3, 2]):
            error = self.raises(BadBell, [pair], exchanged, (2, 1, 3), (1, 2), pair, None)
            self.assertIs(error.bell, pair)
        self.assertEqual(exchanged(*listed(((2, 1, 3), (1, 2)))), (1, 2, 3))


if __name__ == "__main__":
    unittest.main()
