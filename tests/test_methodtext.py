"""Promise 8: what holds for all languages of lines, and the lines of a method."""

import unittest

from tests.asserts import TouchCase
from tests.samples import LITTLE, listed, some_method
from truetouch.errors import BadCall, BadLine, BadText, TooLong, TooMany, Twice
from truetouch.methods import Method
from truetouch.methodtext import read_method, write_method
from truetouch.wordlines import LineReader

EXAMPLE = ("method 4 3(x.14).x.12", "call b 7 14", "call s 7 1234")
HEAD = "method 4 3(x.14).x.12"


class MethodLines(TouchCase):

    def test_example(self):
        method = read_method(EXAMPLE)
        self.assertEqual(method, LITTLE)
        self.assertEqual((method.size, method.letters), (8, "bps"))
        self.assertEqual(write_method(method), EXAMPLE)
        self.assertEqual(read_method(list(EXAMPLE)), LITTLE)
        self.assertEqual(read_method(("method 4 <2(x.14)>.12",) + EXAMPLE[1:]), LITTLE)

    def test_written_and_read(self):
        for seed in range(40):
            method = some_method(seed)
            lines = write_method(method)
            self.assertIsInstance(lines, tuple)
            self.assertEqual(read_method(lines), method)
            self.assertEqual(read_method(listed(lines)), method)

    def test_bad_lines(self):
        for lines, line, word in [
                ((), 0, 0), (("",), 0, 0), ((" ",), 0, 0), (("Method 4 x",), 0, 0), (("call b 0 x",), 0, 0),
                (("method",), 0, 1), (("method ",), 0, 1), (("method  4 x",), 0, 1), (("method 2 x",), 0, 1),
                (("method 9 x",), 0, 1), (("method 04 x",), 0, 1), (("method +4 x",), 0, 1), (("method -4 x",), 0, 1),
                (("method x x",), 0, 1), (("method 4",), 0, 2), (("method 4 ",), 0, 2), (("method 5 x",), 0, 2),
                (("method 4 -",), 0, 2), (("method 4 x.",), 0, 2), (("method 4 33(x)",), 0, 2),
                (("method 4 32(x).x",), 0, 2), (("method 4 x ",), 0, 3), (("method 4 x x",), 0, 3),
                (("method 4  x",), 0, 2), ((" method 4 x",), 0, 0), ((None,), 0, 0), ((4,), 0, 0), ((["method"],), 0, 0),
                ((HEAD, ""), 1, 0), ((HEAD, HEAD), 1, 0), ((HEAD, "call"), 1, 1), ((HEAD, "call p 7 14"), 1, 1),
                ((HEAD, "call B 7 14"), 1, 1), ((HEAD, "call bb 7 14"), 1, 1), ((HEAD, "call  7 14"), 1, 1),
                ((HEAD, "call b"), 1, 2), ((HEAD, "call b 32 14"), 1, 2), ((HEAD, "call b 07 14"), 1, 2),
                ((HEAD, "call b -1 14"), 1, 2), ((HEAD, "call b 7"), 1, 3), ((HEAD, "call b 7 13"), 1, 3),
                ((HEAD, "call b 7 14 14"), 1, 4), ((HEAD, "call b 7 14", "call c 7 x.", "call p"), 2, 3),
                ((HEAD, "call b 7 14", None), 2, 0), ((HEAD, "call b 7 14", "end"), 2, 0),
                ((HEAD, "call b 31 14", "call b 0 x "), 2, 4)]:
            self.raises(BadLine, [line, word], read_method, lines)
            self.raises(BadLine, [line, word], read_method, list(lines))

    def test_the_error_of_a_text_is_the_cause(self):
        error = self.raises(BadLine, [0, 2], read_method, ("method 4 x.13",))
        self.assertIsInstance(error.__cause__, BadText)
        self.assertEqual(error.__cause__.at, 2)
        error = self.raises(BadLine, [1, 3], read_method, (HEAD, "call b 0 32(x).x"))
        self.assertIsInstance(error.__cause__, TooLong)
        self.assertEqual(error.__cause__.number, 33)
        error = self.raises(BadLine, [0, 2], read_method, ("method 4 ",))
        self.assertIsInstance(error.__cause__, BadText)
        self.assertIsNone(self.raises(BadLine, [0, 1], read_method, ("method 9 x",)).__cause__)

    def test_the_object_is_judged_when_all_lines_are_read(self):
        self.raises(BadCall, [0], read_method, (HEAD, "call b 8 14"))
        self.raises(BadCall, [1], read_method, (HEAD, "call b 7 14", "call c 7 x.x"))
        self.raises(Twice, ["b"], read_method, (HEAD, "call b 7 14", "call b 7 x"))
        lines = [HEAD] + [f"call {letter} 0 x" for letter in "abcdef"]
        self.raises(TooMany, ["call"], read_method, lines)
        self.raises(BadLine, [7, 0], read_method, lines + ["call"[:3]])
        self.assertEqual(len(read_method(lines[:6])), 6)

    def test_bounds(self):
        method = read_method(("method 8 32(x)", "call z 31 18", "call a 0 32(12345678)"))
        self.assertEqual(method.calls[0], ("z", 31, ((1, 8),)))
        self.assertEqual(read_method(("method 3 1",)), Method(3, ((1,),)))


class Words(TouchCase):

    def told(self, line, *deeds):
        """What the deeds take from a line that begins with the word `do`."""
        reader = LineReader((line,))
        reader.begin("do")
        taken = [getattr(reader, name)(*told) for name, *told in deeds]
        reader.finish()
        return taken

    def test_callings(self):
        for word, calling in [("-", ""), ("p", "p"), ("2(pb)", "pbpb")]:
            self.assertEqual(self.told(f"do {word}", ("take_calling",)), [calling])
        for line, word in [("do", 1), ("do ", 1), ("do 1p", 1), ("do --", 1), ("do 99(99a)", 1), ("do p ", 2)]:
            self.raises(BadLine, [0, word], self.told, line, ("take_calling",))
        error = self.raises(BadLine, [0, 1], self.told, "do 99(99a)", ("take_calling",))
        self.assertIsInstance(error.__cause__, TooLong)
        error = self.raises(BadLine, [0, 1], self.told, "do 2()", ("take_calling",))
        self.assertIsInstance(error.__cause__, BadText)

    def test_places_and_numbers(self):
        deeds = (("take_number", 0, 29), ("take_places",))
        self.assertEqual(self.told("do 0 12345678", *deeds), [0, (1, 2, 3, 4, 5, 6, 7, 8)])
        self.assertEqual(self.told("do 29 4", *deeds), [29, (4,)])
        for line, word in [("do 30 1", 1), ("do 00 1", 1), ("do 1 0", 2), ("do 1 9", 2), ("do 1 21", 2), ("do 1 11", 2),
                           ("do 1 ", 2), ("do 1", 2), ("do 1 x", 2), ("do 1 1 ", 3), ("do 1" + "0" * 1990 + " 1", 1)]:
            self.raises(BadLine, [0, word], self.told, line, *deeds)

    def test_first_words(self):
        reader = LineReader(["end", "else", "begin"])
        self.assertEqual(reader.begin("call", "end"), "end")
        self.assertEqual(reader.begin("else"), "else")
        self.assertTrue(reader.has_more())
        self.raises(BadLine, [2, 0], reader.begin, "call", "end")
        self.assertFalse(reader.has_more())
        self.raises(BadLine, [3, 0], reader.begin, "call")


if __name__ == "__main__":
    unittest.main()
