"""Promise 6: lead texts, plain and folded."""

import itertools
import random
import unittest

from tests.asserts import TouchCase
from tests.samples import listed, plain_changes
from truetouch.errors import BadStage, BadText, TooLong
from truetouch.foldlead import fold_lead
from truetouch.leadtext import read_lead, write_lead

X = ()
A = (1, 4)
B = (1, 2)


def shortest_texts(words, most):
    """For each lead of at most so many changes its best text, by making all texts, the short ones first."""
    longest = most * (max(len(word) for word in words) + 1)
    texts = [[] for _ in range(longest + 1)]
    pieces = [[] for _ in range(longest + 1)]
    best = {}
    for length in range(1, longest + 1):
        made = [(word, (word,)) for word in words if len(word) == length]
        for inner in range(1, length - 1):
            for text, lead in texts[inner]:
                if inner + 2 == length and 2 * len(lead) - 1 <= most:
                    made.append((f"<{text}>", lead + lead[:-1][::-1]))
                for times in range(2, most + 1):
                    if inner + 2 + len(str(times)) == length and times * len(lead) <= most:
                        made.append((f"{times}({text})", lead * times))
        pieces[length] = made
        texts[length] = list(made)
        for first in range(1, length - 1):
            for text, lead in pieces[first]:
                for rest, more in texts[length - 1 - first]:
                    if len(lead) + len(more) <= most:
                        texts[length].append((f"{text}.{rest}", lead + more))
        for text, lead in sorted(texts[length]):
            best.setdefault(lead, text)
    return best


class LeadTexts(TouchCase):

    def test_plain(self):
        self.assertEqual(write_lead((X, A, B)), "x.14.12")
        self.assertEqual(write_lead([[], [1, 2, 3, 4]]), "x.1234")
        for seed in range(50):
            chance = random.Random(seed)
            stage = chance.randint(3, 8)
            lead = tuple(chance.choice(plain_changes(stage)) for _ in range(chance.randint(1, 32)))
            self.assertEqual(read_lead(stage, write_lead(lead)), lead)
            self.assertEqual(read_lead(stage, fold_lead(lead)), lead)
            self.assertEqual(fold_lead(listed(lead)), fold_lead(lead))

    def test_read(self):
        for text, lead in [("x", (X,)), ("14", (A,)), ("2(x)", (X, X)), ("<x.14.12>", (X, A, B, A, X)), ("<x>", (X,)),
                           ("3(x.14).x.12", (X, A, X, A, X, A, X, B)), ("<2(x.14)>.12", (X, A, X, A, X, A, X, B)),
                           ("2(<x.14>)", (X, A, X) * 2), ("<<x.14>>", (X, A, X, A, X)), ("32(x)", (X,) * 32),
                           ("1234", ((1, 2, 3, 4),)), ("12(12)", (B,) * 12), ("2(2(2(2(2(<x>)))))", (X,) * 32),
                           ("<<<<<<x>>>>>>", (X,)), ("<x>.<x>", (X, X)), ("<x>." * 7 + "x", (X,) * 8),
                           ("2(x)." * 7 + "x", (X,) * 15)]:
            self.assertEqual(read_lead(4, text), lead, text)
        self.assertEqual(read_lead(3, "1.3.123"), ((1,), (3,), (1, 2, 3)))
        self.assertEqual(read_lead(8, "12345678.18"), (tuple(range(1, 9)), (1, 8)))

    def test_bad_texts(self):
        for text, at in [("", 0), (".", 0), ("x.", 2), ("x..x", 2), ("xx", 1), ("x14", 1), ("14x", 2), ("21", 0),
                         ("x.13", 2), ("0", 0), ("9", 0), ("x.114", 2), ("(x)", 0), ("1(x)", 0), ("33(x)", 0),
                         ("02(x)", 0), ("2()", 2), ("2(", 2), ("2(x", 3), ("2(x.", 4), ("2(x>", 3), ("<x)", 2),
                         ("<>", 1), ("<", 1), ("x)", 1), ("x>", 1), ("2(x)x", 4), ("2(x)3(x)", 4), ("x 14", 1),
                         (" x", 0), ("x ", 1), ("X", 0), ("a", 0), ("x.2", 2), ("2", 0), ("12(", 3), ("<x.14", 5),
                         ("<<<<<<<x>>>>>>>", 6), ("2(2(2(2(2(2(2(x)))))))", 13), ("<<<<<<2(x)>>>>>>", 7),
                         ("<<<<<<x.33(x)>>>>>>", 8), ("x.1000(x)", 2), ("x.-2(x)", 2), ("3(x.14).x.13", 10),
                         ("<x>.<<<<<<<x>>>>>>>", 10), ("2(x).<<<<<<<x>>>>>>>", 11), ("<<<<<<x>.<<x>>>>>>>", 10)]:
            self.assertEqual(self.raises(BadText, [at], read_lead, 4, text).at, at, text)
        for stage in (3, 5, 7):
            self.raises(BadText, [0], read_lead, stage, "x")
        self.raises(BadText, [2], read_lead, 3, "1.x")
        for thing in (None, 14, ("x",), ["x"], b"x"):
            self.raises(BadText, [-1], read_lead, 4, thing)

    def test_stage_goes_first(self):
        for stage in (2, 9, True, None, "4"):
            self.raises(BadStage, [stage], read_lead, stage, None)

    def test_too_long(self):
        self.assertEqual(len(read_lead(4, "16(x.14)")), 32)
        self.raises(TooLong, [33], read_lead, 4, "<16(x).x>")
        self.raises(TooLong, [33], read_lead, 4, "32(x).x")
        self.raises(TooLong, [34], read_lead, 4, "17(x.14)")
        self.raises(TooLong, [64], read_lead, 4, "2(32(x))")
        self.raises(TooLong, [32 ** 6 + 1], read_lead, 4, "x.32(32(32(32(32(32(x))))))")
        self.raises(TooLong, [65], read_lead, 4, "<32(x).x>")
        # Only a text that has been read to its end is too long.
        self.raises(BadText, [8], read_lead, 4, "32(x).x.")
        self.raises(BadText, [6], read_lead, 4, "32(x).33(x)")

    def test_folded(self):
        self.assertEqual(fold_lead((X, A, X, A, X, A, X, B)), "3(x.14).x.12")
        self.assertEqual(fold_lead((X, A, X)), "<x.14>")
        self.assertEqual(fold_lead((X,)), "x")
        self.assertEqual(fold_lead((X, X)), "x.x")
        self.assertEqual(fold_lead((X, X, X)), "3(x)")
        self.assertEqual(fold_lead(((1, 2, 3, 4),) * 2), "2(1234)")
        self.assertEqual(fold_lead((X,) * 32), "32(x)")

    def test_folded_is_the_shortest_and_first(self):
        for stage, words, most in [(3, ("1", "3"), 6), (4, ("x", "14"), 5), (4, ("1234", "12"), 4)]:
            best = shortest_texts(words, most)
            many = 0
            for size in range(1, most + 1):
                for lead in itertools.product(words, repeat=size):
                    changes = tuple(() if word == "x" else tuple(int(digit) for digit in word) for word in lead)
                    self.assertEqual(fold_lead(changes), best[lead])
                    self.assertEqual(read_lead(stage, best[lead]), changes)
                    many += 1
            self.assertEqual(many, sum(2 ** size for size in range(1, most + 1)))

    def test_longest_leads_are_folded_soon(self):
        chance = random.Random(1)
        for _ in range(5):
            half = [chance.choice([(), (1, 8), (1, 2)]) for _ in range(8)]
            lead = tuple((half + half[::-1]) * 2)
            text = fold_lead(lead)
            self.assertEqual(read_lead(8, text), lead)
            self.assertLess(len(text), len(write_lead(lead)) // 2)


if __name__ == "__main__":
    unittest.main()
