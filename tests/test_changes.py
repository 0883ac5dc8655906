"""Promise 3: changes, their moves, crossings and texts."""

import unittest

from tests.asserts import TouchCase
from tests.samples import change_row, plain_changes
from truetouch.changes import changes, crossings, is_change, move_of, write_change
from truetouch.errors import BadChange, BadStage


class Changes(TouchCase):

    def test_all_changes(self):
        for stage in range(3, 9):
            self.assertEqual(list(changes(stage)), plain_changes(stage))
        self.assertEqual(list(changes(3)), [(1,), (1, 2, 3), (3,)])
        self.assertEqual(len(list(changes(8))), 34)

    def test_generator_does_nothing_before_it_is_iterated(self):
        told = changes(99)
        self.raises(BadStage, [99], list, told)

    def test_is_change(self):
        for stage in range(3, 9):
            known = set(plain_changes(stage))
            self.assertIs(is_change(tuple(range(1, stage + 1)), stage), True)
            for low in range(stage + 1):
                for high in range(stage + 1):
                    thing = (low, high)
                    self.assertIs(is_change(thing, stage), thing in known)
                    self.assertIs(is_change(list(thing), stage), thing in known)
        self.assertIs(is_change((), 4), True)
        self.assertIs(is_change((), 5), False)
        for thing in (None, 1, "1", "", (True,), (1.0,), (4, 1), (1, 1), {1: 1}, ((1,),), (1, None)):
            self.assertIs(is_change(thing, 4 if thing == (4, 1) else 3), False)
        for stage in (2, 9, True, None):
            self.assertIs(is_change((), stage), False)

    def test_moves_and_crossings(self):
        for stage in range(3, 9):
            start = tuple(range(1, stage + 1))
            for change in plain_changes(stage):
                move = move_of(change, stage)
                self.assertEqual(move, change_row(start, change))
                pairs = tuple((at, at + 1) for at in range(1, stage) if move[at - 1] == at + 1)
                self.assertEqual(crossings(list(change), stage), pairs)
        self.assertEqual(move_of((1, 4), 4), (1, 3, 2, 4))
        self.assertEqual(move_of([1, 2, 3, 4], 4), (1, 2, 3, 4))
        self.assertEqual(crossings((), 4), ((1, 2), (3, 4)))
        self.assertEqual(crossings((1, 2, 3), 3), ())

    def test_errors(self):
        for deed in (move_of, crossings):
            self.raises(BadStage, [9], deed, (2,), 9)
            self.raises(BadStage, [True], deed, (2,), True)
            for thing in ((2,), (1, 3), None, "14", (True, 4)):
                self.assertIs(self.raises(BadChange, [thing], deed, thing, 4).change, thing)

    def test_texts(self):
        self.assertEqual(write_change(()), "x")
        self.assertEqual(write_change((1, 2, 3)), "123")
        self.assertEqual(write_change([3, 4, 7, 8]), "3478")


if __name__ == "__main__":
    unittest.main()
