"""Promise 7: calling texts, plain and folded."""

import itertools
import random
import unittest

from tests.asserts import TouchCase
from truetouch.calltext import fold_calling, read_calling
from truetouch.errors import BadCalling, BadText, TooLong


def shortest_texts(letters, most):
    """For each calling of at most so many letters its best text, by making all texts, the short ones first."""
    texts = [[("", "")]] + [[] for _ in range(most)]
    items = [[] for _ in range(most + 1)]
    best = {"": ""}
    for length in range(1, most + 1):
        made = [(letter, letter) for letter in letters if length == 1]
        for times in range(2, most + 1):
            rest = length - len(str(times))
            made += [(f"{times}{letter}", letter * times) for letter in letters if rest == 1]
            if rest > 2:
                made += [(f"{times}({text})", told * times) for text, told in texts[rest - 2]
                         if len(told) * times <= most]
        items[length] = made
        for first in range(1, length + 1):
            for text, told in items[first]:
                texts[length] += [(text + rest, told + more) for rest, more in texts[length - first]
                                  if len(told + more) <= most]
        for text, told in sorted(texts[length]):
            best.setdefault(told, text)
    return best


class CallingTexts(TouchCase):

    def test_read(self):
        for text, calling in [("", ""), ("a", "a"), ("pbz", "pbz"), ("2p", "pp"), ("99a", "a" * 99), ("2(ab)", "abab"),
                              ("a2bc", "abbc"), ("2(a3(bc))d", "abcbcbcabcbcbcd"), ("2(a)", "aa"), ("3(2(p))", "pppppp"),
                              ("2(2(2(2(2(2(a))))))", "a" * 64), ("2(a)" * 7, "a" * 14), ("10b", "b" * 10), ("4(99a)4b", ("a" * 99) * 4 + "bbbb")]:
            self.assertEqual(read_calling(text), calling, text)

    def test_bad_texts(self):
        for text, at in [("1a", 0), ("0a", 0), ("02a", 0), ("100a", 0), ("a1", 1), ("2", 1), ("a2", 2), ("99", 2),
                         ("(a)", 0), ("2()", 2), ("2(", 2), ("2(a", 3), ("a)", 1), (")", 0), ("2(a))", 4), ("A", 0),
                         ("a b", 1), ("a-", 1), ("2 a", 1), ("2-", 1), ("2(2()a)", 4), ("2(2)", 3), ("23(a", 4),
                         ("2(2(2(2(2(2(2(a)))))))", 13), ("2(1a)", 2), ("a.b", 1), ("-", 0), (" ", 0),
                         ("2(2(2(2(2(2(100(a)))))))", 12), ("a1000a", 1), ("2(a)2(2(2(2(2(2(2(a)))))))", 17)]:
            self.assertEqual(self.raises(BadText, [at], read_calling, text).at, at, text)
        for thing in (None, 3, ("a",), ["a"], b"a"):
            self.raises(BadText, [-1], read_calling, thing)

    def test_too_long(self):
        self.assertEqual(len(read_calling("4(99a)4b")), 400)
        self.raises(TooLong, [401], read_calling, "4(99a)5b")
        self.raises(TooLong, [99 ** 6], read_calling, "99(99(99(99(99(99a)))))")
        self.raises(TooLong, [99 ** 7], read_calling, "99(99(99(99(99(99(99a))))))")
        self.raises(TooLong, [401], read_calling, "a" * 401)
        self.raises(BadText, [401], read_calling, "a" * 401 + ".")
        self.raises(TooLong, [99 * 99 * 3], read_calling, "99(99(abc))")

    def test_folded(self):
        for calling, text in [("", ""), ("a", "a"), ("aa", "2a"), ("abab", "abab"), ("ababab", "3(ab)"), ("aab", "2ab"),
                              ("p" * 40, "40p"), ("abbabb", "2(a2b)"), ("bbbbbbbbbbb", "11b")]:
            self.assertEqual(fold_calling(calling), text)

    def test_folded_is_the_shortest_and_first(self):
        for letters, most in [("ab", 9), ("abc", 6)]:
            best = shortest_texts(letters, most)
            for many in range(most + 1):
                for told in itertools.product(letters, repeat=many):
                    calling = "".join(told)
                    self.assertEqual(fold_calling(calling), best[calling])

    def test_folded_is_read_again(self):
        for seed in range(60):
            chance = random.Random(seed)
            part = "".join(chance.choice("pbs") for _ in range(chance.randint(1, 10)))
            calling = (part * 40)[:chance.randint(0, 40)]
            text = fold_calling(calling)
            self.assertEqual(read_calling(text), calling)
            self.assertLessEqual(len(text), len(calling))

    def test_errors_of_folding(self):
        self.assertEqual(fold_calling("ab" * 20), "20(ab)")
        self.raises(TooLong, [41], fold_calling, "a" * 41)
        self.raises(BadCalling, [41], fold_calling, "a" * 41 + "A")
        self.raises(BadCalling, [1], fold_calling, "a b")
        self.raises(BadCalling, [0], fold_calling, "-")
        for thing in (None, 3, ("a",), ["a"]):
            self.raises(BadCalling, [-1], fold_calling, thing)


if __name__ == "__main__":
    unittest.main()
