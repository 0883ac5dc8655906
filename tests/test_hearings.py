"""Promise 37: hearings, and their explanations with the fewest slips."""

import itertools
import random
import unittest

from tests.asserts import TouchCase
from tests.bandsamples import lettered_method, method_of
from tests.samples import FIVE, LITTLE, SEVEN, SIX, THREE, listed, rung, some_method, spoil
from truetouch.errors import BadCalling, BadHeard, TooLong, TooMany
from truetouch.hearings import Hearing
from truetouch.methods import Method
from truetouch.slips import Ringing

EIGHT = Method(8, ((1, 2),))


def heads_of(method, explanation):
    """The heads of an explanation, rung one by one; at each one its swap has been done, at the end there is none."""
    row = tuple(range(1, method.stage + 1))
    heads = []
    for letter, swap in explanation:
        if swap:
            names = {swap[0]: swap[1], swap[1]: swap[0]}
            row = tuple(names.get(bell, bell) for bell in row)
        heads.append(row)
        row = rung(method, letter, row)[1][-1]
    return heads + [row]


def fits(row, pattern):
    return all(heard in (None, bell) for bell, heard in zip(row, pattern))


def all_explanations(method, calling, swaps):
    pairs = [()] + (list(itertools.combinations(range(1, method.stage + 1), 2)) if swaps else [])
    return itertools.product(*[[(letter, swap) for letter in method.letters for swap in pairs] for _ in calling])


def slips_of(explanation, calling):
    return sum((letter != called) + (swap != ()) for (letter, swap), called in zip(explanation, calling))


def plain_hearing(method, calling, heard, swaps):
    """What is told, and all explanations that fit."""
    fitting = {}
    for told in all_explanations(method, calling, swaps):
        if all(fits(row, pattern) for row, pattern in zip(heads_of(method, told), heard)):
            fitting[told] = slips_of(told, calling)
    if not fitting:
        return (None, 0, None, (None,) * len(calling)), fitting
    fewest = min(fitting.values())
    best = sorted(told for told in fitting if fitting[told] == fewest)
    sure = tuple(column[0] if len(set(column)) == 1 else None for column in zip(*best))
    return (fewest, len(best), best[0], sure), fitting


def told_by(hearing):
    return (hearing.fewest, hearing.number, hearing.first, hearing.sure)


def some_heard(chance, method, calling, swaps):
    """Patterns of what is rung with some slips; sometimes with a bell that was heard wrongly."""
    explanation = [(letter if chance.random() < 0.6 else chance.choice(method.letters),
                    tuple(sorted(chance.sample(range(1, method.stage + 1), 2))) if swaps and chance.random() < 0.3 else ())
                   for letter in calling]
    patterns = []
    share = chance.choice((0.1, 0.3, 0.5))
    for row in heads_of(method, explanation):
        pattern = [bell if chance.random() < share else None for bell in row]
        if chance.random() < 0.05:
            chance.shuffle(pattern)
        patterns.append(tuple(pattern))
    return tuple(patterns)


class Hearings(TouchCase):

    def test_against_all_explanations(self):
        results, many, unsure = set(), 0, 0
        for seed in range(400):
            chance = random.Random(seed)
            method = some_method(seed)
            swaps = method.stage < 5 and seed % 2 == 0
            most = {3: 3, 4: 2}[method.stage] if swaps else 4
            calling = "".join(chance.choice(method.letters) for _ in range(chance.randint(0, most)))
            heard = some_heard(chance, method, calling, swaps)
            hearing = Hearing(method, calling, heard, swaps=swaps)
            wanted, fitting = plain_hearing(method, calling, heard, swaps)
            self.assertEqual(told_by(hearing), wanted)
            self.assertEqual(len(hearing), len(calling))
            self.assertEqual((hearing.method, hearing.calling, hearing.heard, hearing.swaps), (method, calling, heard, swaps))
            for told in itertools.islice(all_explanations(method, calling, swaps), 0, None, 7):
                self.assertIs(told in hearing, told in fitting)
                self.assertIs(listed(told) in hearing, told in fitting)
            for told in list(fitting)[:20]:
                self.assertIs(told in hearing, True)
            results.add(wanted[0])
            many += wanted[1] > 1
            unsure += None in wanted[3] and wanted[1] > 0
        self.assertTrue({None, 0, 1, 2} <= results)
        self.assertGreater(many, 20)
        self.assertGreater(unsure, 20)

    def test_swaps_are_not_let_unless_told(self):
        heard = ((2, 1, 3), (None,) * 3)
        self.assertEqual(told_by(Hearing(THREE, "p", heard)), (None, 0, None, (None,)))
        hearing = Hearing(THREE, "p", heard, swaps=True)
        self.assertEqual(told_by(hearing), (1, 1, (("p", (1, 2)),), (("p", (1, 2)),)))
        self.assertIs((("p", (1, 2)),) in Hearing(THREE, "p", ((None,) * 3,) * 2), False)
        self.assertIs((("p", (1, 2)),) in Hearing(THREE, "p", ((None,) * 3,) * 2, swaps=True), True)

    def test_first_is_told_by_letters_ahead_of_swaps(self):
        # The end can be explained by another letter or by a swap.
        swapped = method_of((1, 2, 3), (2, 1, 3))
        hearing = Hearing(swapped, "p", ((None,) * 3, (2, 1, 3)), swaps=True)
        self.assertEqual(told_by(hearing), (1, 2, (("a", ()),), (None,)))

    def test_empty_calling(self):
        self.assertEqual(told_by(Hearing(LITTLE, "", ((1, None, None, 4),))), (0, 1, (), ()))
        self.assertEqual(told_by(Hearing(LITTLE, "", ((2, None, None, 4),), swaps=True)), (None, 0, None, ()))
        hearing = Hearing(LITTLE, "", ((1, None, None, 4),))
        self.assertEqual((len(hearing), () in hearing, [] in hearing, ((),) in hearing), (0, True, True, False))
        self.assertIs(() in Hearing(LITTLE, "", ((2, None, None, 4),)), False)

    def test_great_numbers(self):
        nothing = (None,) * 6
        hearing = Hearing(SIX, "p" * 24, (nothing,) * 25)
        self.assertEqual(told_by(hearing), (0, 1, (("p", ()),) * 24, (("p", ()),) * 24))
        # Letters with the same lead are different letters all the same: each bob can be a mistake for a plain lead.
        same = Method(3, ((1,),), (("b", 0, ((3,),)), ("q", 0, ((3,),))))
        end = (2, 3, 1)
        hearing = Hearing(same, "p" * 24, ((None,) * 3,) * 24 + (end,))
        wanted = plain_hearing(same, "p" * 4, ((None,) * 3,) * 4 + (end,), False)[0]
        self.assertEqual(hearing.fewest, wanted[0])
        self.assertGreater(hearing.number, wanted[1])
        rows = [rung(SIX, "pbs" * 8)[1][at] for at in range(25)]
        swapped = Hearing(SIX, "p" * 24, tuple(rows), swaps=True)
        self.assertIs(swapped.first in swapped, True)
        self.assertEqual(slips_of(swapped.first, "p" * 24), swapped.fewest)
        self.assertLessEqual(swapped.fewest, 16)

    def test_explanations_are_ringings_with_slips(self):
        chance = random.Random(5)
        for seed in range(40):
            method = some_method(seed)
            calling = "".join(chance.choice(method.letters) for _ in range(6))
            hearing = Hearing(method, calling, some_heard(chance, method, calling, True), swaps=True)
            if hearing.first is not None:
                slips = []
                for number, (letter, swap) in enumerate(hearing.first):
                    slips += [("mistaken", number, letter)] if letter != calling[number] else []
                    slips += [("swapped", number, *swap)] if swap else []
                ringing = Ringing(method, calling, tuple(slips))
                self.assertEqual(len(slips), hearing.fewest)
                self.assertTrue(all(fits(row, pattern) for row, pattern in zip(ringing.heads, hearing.heard)))

    def test_what_is_no_explanation(self):
        nothing = (None,) * 4
        hearing = Hearing(LITTLE, "pb", (nothing,) * 3, swaps=True)
        for thing in (None, (), "pb", (("p", ()),), (("p", ()),) * 3, (("p", ()), "b"), (("p", ()), ("x", ())), (("p", ()), ("b",)),
                      (("p", ()), ("b", (), ())), (("p", ()), ("b", None)), (("p", ()), ("b", (2, 1))),
                      (("p", ()), ("b", (2, 2))), (("p", ()), ("b", (1, 5))), (("p", ()), ("b", (0, 1))),
                      (("p", ()), ("b", (True, 2))), (("p", ()), ("b", "")), (("p", ()), ("b", (1,))), (("p", ()), (["b"], ())),
                      (("p", ()), ("b", (1, 2, 3))), (("p", ()), (None, ())), (("p", ()), ("", ())), {}, 2,
                      (("p", ()), ("b", {}))):
            self.assertIs(thing in hearing, False)
        self.assertIs((("p", ()), ("b", (1, 4))) in hearing, True)
        self.assertIs([["p", []], ["b", [1, 4]]] in hearing, True)

    def test_errors_in_order(self):
        good = ((None,) * 4,) * 3
        for calling, number in ((None, -1), ("p" * 401, -1), ("p" * 25 + "x", 25), (("p",), -1), ("px", 1)):
            self.raises(BadCalling, [number], Hearing, LITTLE, calling, None)
        self.raises(TooLong, [25], Hearing, LITTLE, "p" * 25, None)
        self.raises(TooLong, [400], Hearing, LITTLE, "p" * 400, good)
        for heard in (None, (), good[:2], good + good[:1], "abc", 3, {}):
            self.raises(BadHeard, [-1], Hearing, LITTLE, "pb", heard)
        for pattern in (None, (), (1, 2, 3), (1, 2, 3, 4, None), (1, 1, None, None), (0, None, None, None), (5, None, None, None),
                        (True, None, None, None), "1234", ("1", None, None, None), (False, 2, 3, 4)):
            self.raises(BadHeard, [1], Hearing, LITTLE, "pb", (good[0], pattern, None))
            self.raises(BadHeard, [2], Hearing, LITTLE, "pb", good[:2] + (pattern,))

    def test_number_of_bells_and_heads(self):
        seven, eight = (None,) * 7, (None,) * 8
        few = Method(7, ((7,),))
        for method, pattern in ((few, seven), (EIGHT, eight)):
            self.assertEqual(Hearing(method, "pp", (pattern,) * 3).fewest, 0)
            self.raises(TooMany, ["bell"], Hearing, method, "pp", (pattern,) * 3, swaps=True)
            self.raises(BadHeard, [0], Hearing, method, "pp", (None, pattern, pattern), swaps=True)
        self.raises(TooMany, ["head"], Hearing, SEVEN, "pp", (seven,) * 3)
        self.raises(TooMany, ["head"], Hearing, SEVEN, "", (seven,), swaps=False)
        self.raises(TooMany, ["bell"], Hearing, SEVEN, "pp", (seven,) * 3, swaps=True)
        self.assertEqual(Hearing(SIX, "pp", ((None,) * 6,) * 3, swaps=True).fewest, 0)

    def test_lists(self):
        heard = listed(((1, None, 3, 4), (None,) * 4, (1, 2, 3, 4)))
        before = listed(tuple(tuple(pattern) for pattern in heard))
        hearing = Hearing(LITTLE, "pb", heard)
        self.assertEqual(heard, before)
        wanted = told_by(hearing)
        spoil(heard)
        self.assertEqual(hearing.heard, ((1, None, 3, 4), (None,) * 4, (1, 2, 3, 4)))
        self.assertEqual(told_by(hearing), wanted)
        self.assertIs(hearing.first in hearing, True)

    def test_by_turns(self):
        chance = random.Random(6)
        told = [(method, "pp", some_heard(chance, method, "pp", True)) for method in (LITTLE, lettered_method(1, 2), LITTLE)]
        hearings = [Hearing(*arguments, swaps=True) for arguments in told]
        for hearing, arguments in zip(hearings, told):
            self.assertEqual(told_by(hearing), told_by(Hearing(*arguments, swaps=True)))
        self.assertEqual(told_by(Hearing(FIVE, "pb", (rung(FIVE, "pb")[1]))), (0, 1, (("p", ()), ("b", ())), (("p", ()), ("b", ()))))


if __name__ == "__main__":
    unittest.main()
