"""Promise 15: mirrored and reversed methods."""

import unittest

from tests.samples import FIVE, LITTLE, callings, rung, some_method
from truetouch.methods import Method
from truetouch.mirrors import mirrored_method, reversed_method
from truetouch.touches import Touch


def mirrored_row(row):
    return tuple(len(row) + 1 - bell for bell in row[::-1])


class Mirrors(unittest.TestCase):

    def test_mirrored(self):
        self.assertEqual(mirrored_method(FIVE), Method(5, ((1,), (5,), (1,), (3, 4, 5)),
                                                       (("b", 3, ((5,),)), ("s", 2, ((1, 2, 5), (1, 2, 3))))))
        for seed in range(25):
            method = some_method(seed)
            mirrored = mirrored_method(method)
            self.assertEqual(mirrored_method(mirrored), method)
            for calling in callings(method.letters, 3):
                rows, heads = rung(method, calling)
                touch = Touch(mirrored, calling)
                self.assertEqual(list(touch), [mirrored_row(row) for row in rows])
                self.assertEqual(touch.end, mirrored_row(heads[-1]))
                self.assertEqual(touch.spots, Touch(method, calling).spots)
                self.assertEqual(touch.is_round, Touch(method, calling).is_round)

    def test_reversed(self):
        self.assertEqual(reversed_method(FIVE), Method(5, ((1, 2, 3), (5,), (1,), (5,)),
                                                       (("b", 0, ((1,),)), ("s", 0, ((3, 4, 5), (1, 4, 5))))))
        for seed in range(25):
            method = some_method(seed)
            backward = reversed_method(method)
            self.assertEqual(reversed_method(backward), method)
            self.assertEqual([call[0] for call in backward.calls], [call[0] for call in method.calls])
            for calling in callings(method.letters, 3):
                if calling:
                    rows, heads = rung(method, calling)
                    touch = Touch(backward, calling[::-1], heads[-1])
                    self.assertEqual(list(touch), [heads[-1]] + rows[:0:-1])
                    self.assertEqual(touch.end, heads[0])
                    self.assertEqual(touch.is_round, Touch(method, calling).is_round)
                    if touch.is_round:
                        self.assertEqual(touch.is_true, Touch(method, calling).is_true)

    def test_little(self):
        self.assertEqual(reversed_method(LITTLE).calls, (("b", 0, ((1, 4),)), ("s", 0, ((1, 2, 3, 4),))))


if __name__ == "__main__":
    unittest.main()
