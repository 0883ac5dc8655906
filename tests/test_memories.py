"""Promise 23: the memories that a calling needs, and the least memory for so many leads."""

import itertools
import random
import unittest

from tests.asserts import TouchCase
from tests.samples import FIVE, LITTLE, THREE, callings, repeat_of, rung, some_method
from tests.test_conductors import going
from truetouch.conductors import Conductor
from truetouch.errors import BadBell, BadCalling, BadMany, TooLong, TooMany
from truetouch.memories import conductor_for, least_memory, memories_needed
from truetouch.methods import Method

# Of this method 2,000 callings of at most 9 letters are true, of the other 2,001 of at most 11, of the last of 12.
MANY = Method(4, ((1, 2), (1, 4)), (("a", 0, ((), (1, 4))), ("b", 1, ((3, 4),)), ("c", 1, ((1, 2),)),
                                    ("d", 0, ((3, 4), ()))))
MORE = Method(4, ((3, 4), (1, 4)), (("a", 1, ((1, 2),)), ("b", 0, ((3, 4), (1, 2))), ("c", 0, ((), (3, 4))),
                                    ("d", 1, ((3, 4),)), ("e", 0, ((1, 2), ()))))
TWELVE = Method(6, ((3, 6), (1, 6), (1, 2)), (("a", 2, ((1, 6),)), ("b", 0, ((),)), ("c", 0, ((1, 2), (3, 4)))))


def plain_needed(method, bell, calling):
    """The fewest memories, by trying all of them at all heads."""
    places = [head.index(bell) for head in rung(method, calling)[1][:-1]]
    for many in range(1, 5):
        for onward in itertools.product(range(many), repeat=max(len(calling) - 1, 0)):
            told = {}
            if all(told.setdefault((memory, place), deed) == deed for memory, place, *deed in zip(
                    (0,) + onward, places, calling, onward)):
                # Behind the last lead any memory will do.
                last = ((0,) + onward)[len(calling) - 1:]
                if not calling or told.setdefault((last[0], places[-1]), [calling[-1], 0])[0] == calling[-1]:
                    return many
    return None


def true_callings(method, most):
    """All true callings of at most so many letters, gone on with letter by letter."""
    level = [""]
    told = [""]
    for _ in range(most):
        level = [calling + letter for calling in level for letter in method.letters
                 if repeat_of(rung(method, calling + letter)[0]) is None]
        told += level
    return told


def plain_least(method, bell, many):
    best = None
    for calling in true_callings(method, many):
        heads = rung(method, calling)[1]
        if len(calling) == many and heads[-1] == heads[0]:
            needed = plain_needed(method, bell, calling)
            if needed and (best is None or needed < best[0]):
                best = (needed, calling)
    return best


def some_calling(chance, method, many):
    return "".join(chance.choice(method.letters) for _ in range(many))


class Memories(TouchCase):

    def test_against_trying_all_memories(self):
        chance = random.Random(11)
        told = []
        for seed in range(400):
            method = some_method(seed)
            calling = some_calling(chance, method, chance.randint(0, 7))
            bell = chance.randint(1, method.stage)
            needed = memories_needed(method, bell, calling)
            self.assertEqual(needed, plain_needed(method, bell, calling), (seed, calling, bell))
            told.append(needed)
            conductor = conductor_for(method, bell, calling)
            if needed is None:
                self.assertIsNone(conductor)
                continue
            self.assertIsInstance(conductor, Conductor)
            self.assertEqual((conductor.method, conductor.bell, len(conductor)), (method, bell, needed))
            letters, _ = going(conductor, tuple(range(1, method.stage + 1)), len(calling))
            self.assertEqual(letters, calling)
        for many in (1, 2, 3, None):
            self.assertGreater(told.count(many), 2, many)

    def test_a_bell_that_stays(self):
        # The bell is always in the first place, so each lead but the last needs a memory of its own up to the change.
        method = Method(4, ((1, 2),), (("b", 0, ((1, 4),)),))
        for calling, many in [("", 1), ("p", 1), ("pppp", 1), ("ppb", 3), ("pb", 2), ("pbpb", 2), ("pppb", 4),
                              ("ppppb", None), ("ppbppbppbppb", 3), ("pppbpppbpppb", 4), ("pppppppppppp", 1),
                              ("pppppppppppb", None), ("bppppppppppp", 2)]:
            self.assertEqual(memories_needed(method, 1, calling), many, calling)
            if len(calling) < 8:
                self.assertEqual(plain_needed(method, 1, calling), many, calling)
        self.assertEqual(len(conductor_for(method, 1, "pppbpppbpppb")), 4)
        self.assertIsNone(conductor_for(method, 1, "ppppb"))
        for calling in callings("bp", 7):
            self.assertEqual(memories_needed(method, 1, calling), plain_needed(method, 1, calling))
        for calling in callings("bp", 5):
            for bell in (2, 3, 4):
                self.assertEqual(memories_needed(method, bell, calling), plain_needed(method, bell, calling))

    def test_the_calling_is_followed_beyond_its_rounds(self):
        # Whoever follows goes on whatever comes, also when the bells are round on the way.
        calling = "bbbp"
        self.assertEqual(rung(LITTLE, "b")[1][-1], (1, 2, 3, 4))
        for bell in range(1, 5):
            self.assertEqual(memories_needed(LITTLE, bell, calling), 4)
            self.assertIsNone(memories_needed(LITTLE, bell, "b" + calling))

    def test_lengths(self):
        self.assertEqual(memories_needed(LITTLE, 2, "p" * 12), 1)
        self.assertEqual(conductor_for(LITTLE, 2, "p" * 12)(0, (1, 2, 3, 4)), ("p", 0))
        for deed in (memories_needed, conductor_for):
            self.raises(TooLong, [13], deed, LITTLE, 2, "p" * 13)
            self.raises(TooLong, [400], deed, LITTLE, 2, "p" * 400)
            self.raises(BadCalling, [-1], deed, LITTLE, 2, "p" * 401)
            self.raises(BadCalling, [13], deed, LITTLE, 2, "p" * 13 + "x")
            self.raises(BadCalling, [-1], deed, LITTLE, 2, None)
            for bell in (0, 5, True, None, "1"):
                self.raises(BadBell, [bell], deed, LITTLE, bell, None)
        empty = conductor_for(LITTLE, 2, "")
        self.assertEqual((len(empty), memories_needed(LITTLE, 2, "")), (1, 1))

    def test_long_callings(self):
        chance = random.Random(12)
        for seed in range(60):
            method = some_method(seed)
            calling = some_calling(chance, method, 12)
            for bell in range(1, method.stage + 1):
                needed = memories_needed(method, bell, calling)
                if needed:
                    conductor = conductor_for(method, bell, calling)
                    self.assertEqual(len(conductor), needed)
                    self.assertEqual(going(conductor, tuple(range(1, method.stage + 1)), 12)[0], calling)
                # A part of what is called never needs more.
                shorter = memories_needed(method, bell, calling[:8])
                if needed:
                    self.assertLessEqual(shorter, needed)


class Least(TouchCase):

    def test_against_a_plain_search(self):
        told = []
        for seed in range(120):
            method = some_method(seed)
            for many in range(1, 5):
                bell = 1 + (seed + many) % method.stage
                wanted = plain_least(method, bell, many)
                self.assertEqual(least_memory(method, bell, many), wanted)
                told.append(wanted and wanted[0])
        for many in (1, 2, None):
            self.assertGreater(told.count(many), 2)

    def test_samples(self):
        for method in (THREE, LITTLE, FIVE):
            for bell in range(1, method.stage + 1):
                for many in (1, 2, 3, 4):
                    self.assertEqual(least_memory(method, bell, many), plain_least(method, bell, many))

    def test_the_least_calling_that_needs_no_more(self):
        # A lesser calling is true and comes round as well, but it needs another memory.
        for seed, bell, wanted, lesser in ((533, 4, "qqq", "ppq"), (1948, 5, "ppp", "ccp"), (2380, 1, "ppp", "aap")):
            method = some_method(seed)
            told = [calling for calling in true_callings(method, 3)
                    if len(calling) == 3 and rung(method, calling)[1][-1] == rung(method, "")[1][0]]
            self.assertEqual(told[0], lesser)
            self.assertEqual(plain_needed(method, bell, lesser), 2)
            self.assertEqual(least_memory(method, bell, 3), (1, wanted))
            self.assertEqual(plain_least(method, bell, 3), (1, wanted))

    def test_many_memories(self):
        self.assertEqual(least_memory(some_method(148), 5, 3), (3, "cpz"))
        self.assertEqual(plain_least(some_method(148), 5, 3), (3, "cpz"))
        # Sixteen callings of eight leads are true and come round, but four memories are not enough for any.
        self.assertIsNone(least_memory(some_method(25), 1, 8))
        self.assertIsNone(plain_least(some_method(25), 1, 8))
        rounds = [calling for calling in true_callings(some_method(25), 8)
                  if len(calling) == 8 and rung(some_method(25), calling)[1][-1] == (1, 2, 3, 4, 5)[:some_method(25).stage]]
        self.assertEqual(len(rounds), 16)
        method = some_method(806)
        self.assertEqual(least_memory(method, 5, 10), (4, "czcpcpzpcp"))
        self.assertEqual(memories_needed(method, 5, "czcpcpzpcp"), 4)
        rounds = [calling for calling in true_callings(method, 10)
                  if len(calling) == 10 and rung(method, calling)[1][-1] == (1, 2, 3, 4, 5)[:method.stage]]
        self.assertEqual(rounds[0], "cpcpzpcpcz")
        for calling in rounds[:rounds.index("czcpcpzpcp")]:
            self.assertIsNone(memories_needed(method, 5, calling))

    def test_number_of_leads(self):
        for many in (0, 13, -1, True, None, "3", 10 ** 39):
            self.raises(BadMany, [many], least_memory, LITTLE, 1, many)
        for bell in (0, 5, True, None):
            self.raises(BadBell, [bell], least_memory, LITTLE, bell, 0)
        self.assertEqual(least_memory(Method(3, ((1, 2, 3),)), 2, 1), (1, "p"))
        self.assertIsNone(least_memory(LITTLE, 1, 12))

    def test_twelve_leads(self):
        # Plain hunting of six bells comes round behind twelve changes.
        method = Method(6, ((),), (("b", 0, ((1, 6),)),))
        told = least_memory(method, 1, 12)
        self.assertEqual(told, (2, "bpbpbpbpbpbp"))
        self.assertEqual(rung(method, told[1])[1][-1], (1, 2, 3, 4, 5, 6))
        self.assertEqual(going(conductor_for(method, 1, told[1]), (1, 2, 3, 4, 5, 6), 12)[0], told[1])

    def test_number_of_true_callings(self):
        self.assertEqual(len(true_callings(MANY, 9)), 2000)
        self.assertEqual(len(true_callings(MORE, 11)), 2001)
        self.assertEqual(len(true_callings(TWELVE, 12)), 2001)
        for bell in range(1, 5):
            self.assertEqual(least_memory(MANY, bell, 9), plain_least(MANY, bell, 9))
            self.raises(TooMany, ["calling"], least_memory, MORE, bell, 11)
            self.raises(TooMany, ["calling"], least_memory, MANY, bell, 10)
        self.raises(TooMany, ["calling"], least_memory, TWELVE, 6, 12)
        self.raises(BadMany, [13], least_memory, TWELVE, 6, 13)
        self.assertEqual(least_memory(TWELVE, 6, 5), plain_least(TWELVE, 6, 5))


if __name__ == "__main__":
    unittest.main()
