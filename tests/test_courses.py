"""Promise 12: courses, hunts, works, the line of a bell, the work of a place."""

import unittest

from tests.asserts import TouchCase
from tests.samples import LITTLE, callings, rung, some_method
from truetouch.courses import course, hunts, line, work, works
from truetouch.errors import BadBell, BadLetter, BadPlace
from truetouch.methods import Method
from truetouch.rows import rounds
from truetouch.touches import Touch


class Courses(TouchCase):

    def test_courses_and_hunts(self):
        for seed in range(30):
            method = some_method(seed)
            for letter in method.letters:
                ends = [rung(method, letter * times)[1][-1] for times in range(1, 9)]
                self.assertEqual(course(method, letter), ends.index(rounds(method.stage)) + 1)
            self.assertEqual(course(method), course(method, "p"))
            kept = tuple(place for place in range(1, method.stage + 1)
                         if all(rung(method, letter)[1][-1][place - 1] == place for letter in method.letters))
            self.assertEqual(hunts(method), kept)
        self.assertEqual((course(LITTLE), course(LITTLE, "b"), course(LITTLE, "s")), (3, 1, 2))
        self.assertEqual(hunts(LITTLE), (1,))
        self.assertEqual(hunts(Method(3, ((1, 2, 3),))), (1, 2, 3))

    def test_works(self):
        self.assertEqual(works(LITTLE), ((1,), (2, 4, 3)))
        self.assertEqual(works(LITTLE, "b"), ((1,), (2,), (3,), (4,)))
        self.assertEqual(works(LITTLE, "s"), ((1,), (2, 3), (4,)))
        for seed in range(20):
            method = some_method(seed)
            for letter in method.letters:
                for cycle in works(method, letter):
                    for here, there in zip(cycle, cycle[1:] + cycle[:1]):
                        self.assertEqual(work(method, letter, here)[-1], there)

    def test_work_of_a_place(self):
        self.assertEqual(work(LITTLE, "p", 1), (1, 2, 3, 4, 4, 3, 2, 1, 1))
        self.assertEqual(work(LITTLE, "p", 2), (2, 1, 1, 2, 3, 4, 4, 3, 4))
        for seed in range(10):
            method = some_method(seed)
            for calling in callings(method.letters, 2):
                if calling:
                    rows, heads = rung(method, calling)
                    last = rows[-method.size:] + [heads[-1]]
                    for place in range(1, method.stage + 1):
                        bell = heads[-2][place - 1]
                        told = tuple(row.index(bell) + 1 for row in last)
                        self.assertEqual(work(method, calling[-1], place), told)

    def test_lines(self):
        for calling in ("", "p", "bsp"):
            for start in (None, (3, 1, 4, 2)):
                touch = Touch(LITTLE, calling, start)
                for bell in range(1, 5):
                    told = [row.index(bell) + 1 for row in list(touch) + [touch.end]]
                    self.assertEqual(list(line(touch, bell)), told)
                    self.assertEqual(len(told), len(touch) + 1)

    def test_line_does_nothing_before_it_is_iterated(self):
        for bell in (0, 5, True, None, "1"):
            told = line(Touch(LITTLE, "p"), bell)
            self.raises(BadBell, [bell], list, told)

    def test_errors(self):
        for letter in ("a", "", None, 3, "bp"):
            self.raises(BadLetter, [letter], course, LITTLE, letter)
            self.raises(BadLetter, [letter], works, LITTLE, letter)
            self.raises(BadLetter, [letter], work, LITTLE, letter, 9)
        for place in (0, 5, -1, True, None, "1"):
            self.raises(BadPlace, [place], work, LITTLE, "p", place)


if __name__ == "__main__":
    unittest.main()
