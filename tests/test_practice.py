"""Promise 36: practices, trials, and rehearsals."""

import random
import unittest

from tests.asserts import TouchCase
from tests.samples import FIVE, LITTLE, SEVEN, listed, rung, some_method
from truetouch.errors import BadBell, BadCalling, BadRow, BadRung
from truetouch.methods import Method
from truetouch.practice import Practice, Trial, rehearsed

ROUNDS = (1, 2, 3, 4)


def state(practice):
    return (practice.method, practice.meant, practice.present, practice.fault, practice.called, practice.rung)


class PlainPractice:
    """A practice that keeps no more than what was done, and does it all again when it is asked."""

    def __init__(self, method):
        self.method = method
        self.deeds = []

    def told(self):
        meant = present = tuple(range(1, self.method.stage + 1))
        called = sung = ""
        for word, *told in self.deeds:
            if word == "ring":
                letters = told[0] if told[1] is None else told[1]
                meant, present = rung(self.method, told[0], meant)[1][-1], rung(self.method, letters, present)[1][-1]
                called, sung = called + told[0], sung + letters
            elif word == "swap":
                swap = {told[0]: told[1], told[1]: told[0]}
                present = tuple(swap.get(bell, bell) for bell in present)
            elif word == "wait":
                present, sung = rung(self.method, told[0], present)[1][-1], sung + told[0]
            else:
                meant = tuple(told[0])
        return meant, present, tuple(meant.index(bell) + 1 for bell in present), called, sung


def some_deed(chance, method, depth=0):
    word = chance.choice(("ring", "ring", "swap", "wait", "meant", "trial" if depth < 3 else "swap"))
    calling = "".join(chance.choice(method.letters) for _ in range(chance.randint(0, 4)))
    if word == "ring":
        return (word, calling, chance.choice((None, "".join(chance.choice(method.letters) for _ in calling))))
    if word == "swap":
        return (word, *chance.sample(range(1, method.stage + 1), 2))
    if word == "wait":
        return (word, calling)
    if word == "meant":
        return (word, tuple(chance.sample(range(1, method.stage + 1), method.stage)))
    return (word, tuple(some_deed(chance, method, depth + 1) for _ in range(chance.randint(0, 4))))


def plain_rehearsal(method, done, deeds):
    """What is told for the deeds behind those that have been done."""
    plain = PlainPractice(method)
    plain.deeds = list(done)
    told = []
    for deed in deeds:
        if deed[0] == "trial":
            told.append(plain_rehearsal(method, plain.deeds, deed[1]))
        else:
            plain.deeds.append(deed)
            _, _, fault, called, sung = plain.told()
            told.append((fault, called, sung))
    return tuple(told)


def do(practice, deed):
    word, *told = deed
    if word == "meant":
        practice.meant = told[0]
        return practice.present
    return {"ring": practice.ring, "swap": practice.swap, "wait": practice.wait}[word](*told)


class Practices(TouchCase):

    def test_new(self):
        practice = Practice(LITTLE)
        self.assertEqual(state(practice), (LITTLE, ROUNDS, ROUNDS, ROUNDS, "", ""))

    def test_against_doing_all_again(self):
        for seed in range(60):
            chance = random.Random(seed)
            method = some_method(seed)
            practice, plain = Practice(method), PlainPractice(method)
            for _ in range(12):
                deed = some_deed(chance, method, 3)
                plain.deeds.append(deed)
                told = do(practice, listed(deed))
                meant, present, fault, called, sung = plain.told()
                self.assertEqual(state(practice)[1:], (meant, present, fault, called, sung))
                self.assertEqual(told, present)

    def test_by_hand(self):
        practice = Practice(LITTLE)
        self.assertEqual(practice.ring("p"), (1, 3, 4, 2))
        self.assertEqual(practice.ring("pp", "pb"), rung(LITTLE, "ppb")[1][-1])
        self.assertEqual((practice.called, practice.rung), ("ppp", "ppb"))
        # Three plain leads come round, and behind a bob the head is what it was.
        self.assertEqual((practice.meant, practice.fault), (ROUNDS, (1, 4, 2, 3)))
        self.assertEqual(practice.swap(4, 1), practice.present)
        self.assertEqual(practice.wait("s"), practice.present)
        self.assertEqual((practice.called, practice.rung, practice.meant), ("ppp", "ppbs", ROUNDS))
        practice.meant = [4, 3, 2, 1]
        self.assertEqual(practice.meant, (4, 3, 2, 1))
        self.assertEqual(practice.ring(""), practice.present)
        self.assertEqual(practice.ring("", ""), practice.present)

    def test_refused_deeds_leave_it_as_it_was(self):
        practice = Practice(LITTLE)
        practice.ring("pb", "sp")
        practice.swap(1, 3)
        before = state(practice)
        for calling, number in ((None, -1), ("p" * 401, -1), ("pxp", 1), (["p"], -1), ("P", 0)):
            self.raises(BadCalling, [number], practice.ring, calling)
            self.raises(BadCalling, [number], practice.ring, calling, "x")
            self.raises(BadCalling, [number], practice.wait, calling)
        for letters, number in (("", -1), ("ppp", -1), ("px", 1), ("x", -1), (["p", "p"], -1), (("p", "p"), -1), (0, -1), (True, -1)):
            self.raises(BadRung, [number], practice.ring, "pb", letters)
        for bell in (0, 5, True, None, "1", -1, (1,), 10 ** 39):
            self.raises(BadBell, [bell], practice.swap, bell, bell)
            self.raises(BadBell, [bell], practice.swap, bell, 0)
            self.raises(BadBell, [bell], practice.swap, 1, bell)
        self.raises(BadBell, [2], practice.swap, 2, 2)

        def set_meant(row):
            practice.meant = row

        for row in (None, (1, 2, 3), (1, 2, 3, 3), (True, 2, 3, 4), "1234", [1, 2, 3, 4, 5]):
            self.assertIs(self.raises(BadRow, [row], set_meant, row).row, row)
        self.assertEqual(state(practice), before)

    def test_long_memories(self):
        practice = Practice(LITTLE)
        practice.ring("p" * 400)
        practice.ring("b" * 400, "s" * 400)
        practice.wait("p" * 400)
        self.assertEqual((practice.called, practice.rung), ("p" * 400 + "b" * 400, "p" * 400 + "s" * 400 + "p" * 400))

    def test_copy_and_equal(self):
        practice = Practice(LITTLE)
        practice.ring("pb", "ps")
        practice.swap(2, 4)
        practice.meant = (2, 1, 3, 4)
        twin = practice.copy()
        self.assertTrue(twin == practice)
        self.assertEqual(state(twin), state(practice))
        twin.wait("p")
        self.assertFalse(twin == practice)
        self.assertEqual(practice.rung, "ps")
        practice.wait("p")
        self.assertTrue(twin == practice)
        practice.swap(1, 2)
        self.assertFalse(twin == practice)
        practice.swap(1, 2)
        practice.meant = ROUNDS
        self.assertFalse(twin == practice)
        first, second = Practice(LITTLE), Practice(LITTLE)
        first.ring("ppp")
        self.assertFalse(first == second)
        second.wait("ppp")
        self.assertEqual((first.meant, first.present), (second.meant, second.present))
        self.assertFalse(first == second)
        self.assertTrue(Practice(LITTLE) == Practice(Method(4, LITTLE.plain, LITTLE.calls)))
        self.assertFalse(Practice(LITTLE) == Practice(Method(4, LITTLE.plain)))
        self.assertIs(Practice(LITTLE) == None, False)
        self.assertIs(Practice(LITTLE) == LITTLE, False)

    def test_many_heads_do_not_matter(self):
        practice = Practice(SEVEN)
        practice.swap(1, 2)
        self.assertEqual(practice.fault, (2, 1, 3, 4, 5, 6, 7))


class Trials(TouchCase):

    def setUp(self):
        self.practice = Practice(FIVE)
        self.practice.ring("pb", "bs")
        self.before = state(self.practice)

    def test_gives_the_practice_and_leaves_it_as_it_was(self):
        with Trial(self.practice) as held:
            self.assertIs(held, self.practice)
            held.ring("pbs")
            held.swap(1, 5)
            held.wait("p")
            held.meant = (5, 4, 3, 2, 1)
            held.called = "whatever"
            self.assertNotEqual(state(self.practice), self.before)
        self.assertEqual(state(self.practice), self.before)

    def test_also_when_an_error_is_raised(self):
        with self.assertRaises(KeyError):
            with Trial(self.practice) as held:
                held.wait("ppp")
                raise KeyError("out")
        self.assertEqual(state(self.practice), self.before)
        with self.assertRaises(BadRung):
            with Trial(self.practice) as held:
                held.swap(1, 2)
                held.ring("p", "pp")
        self.assertEqual(state(self.practice), self.before)

    def test_within_one_another_and_used_again(self):
        trial, other = Trial(self.practice), Trial(self.practice)
        for _ in range(2):
            with trial:
                self.practice.wait("p")
                first = state(self.practice)
                with other:
                    self.practice.wait("b")
                    second = state(self.practice)
                    # The very trial that is under way can be entered once more.
                    with trial:
                        self.practice.swap(1, 2)
                        with trial:
                            self.practice.swap(3, 4)
                        self.assertEqual(self.practice.rung, second[-1])
                    self.assertEqual(state(self.practice), second)
                self.assertEqual(state(self.practice), first)
            self.assertEqual(state(self.practice), self.before)
        self.practice.wait("s")
        later = state(self.practice)
        with trial:
            self.practice.wait("s")
        self.assertEqual(state(self.practice), later)

    def test_errors_within_one_another(self):
        trial = Trial(self.practice)
        with trial:
            self.practice.wait("p")
            first = state(self.practice)
            for _ in range(3):
                try:
                    with trial:
                        self.practice.ring("ss")
                        self.practice.swap(1, 1)
                except BadBell:
                    pass
                self.assertEqual(state(self.practice), first)
        self.assertEqual(state(self.practice), self.before)

    def test_a_copy_of_a_trial_goes_on(self):
        with Trial(self.practice):
            self.practice.wait("p")
            twin = self.practice.copy()
        self.assertEqual(twin.rung, "bsp")
        self.assertEqual(self.practice.rung, "bs")

    def test_eight_within_one_another(self):
        def go_in(depth):
            before = state(self.practice)
            with Trial(self.practice):
                self.practice.wait("p")
                if depth < 8:
                    go_in(depth + 1)
            self.assertEqual(state(self.practice), before)

        go_in(1)
        self.assertEqual(state(self.practice), self.before)


class Rehearsals(TouchCase):

    def test_against_doing_all_again(self):
        for seed in range(80):
            chance = random.Random(seed)
            method = some_method(seed)
            practice = Practice(method)
            done = [some_deed(chance, method, 3) for _ in range(3)]
            for deed in done:
                do(practice, deed)
            before = state(practice)
            deeds = tuple(some_deed(chance, method) for _ in range(6))
            told = rehearsed(practice, deeds)
            self.assertEqual(told, plain_rehearsal(method, done, deeds))
            self.assertEqual(state(practice), before)
            lists = listed(deeds)
            self.assertEqual(rehearsed(practice, lists), told)
            self.assertEqual(lists, listed(deeds))

    def test_none(self):
        practice = Practice(LITTLE)
        self.assertEqual(rehearsed(practice, ()), ())
        self.assertEqual(rehearsed(practice, (("trial", ()),)), ((),))

    def test_sixty_deeds_and_eight_trials(self):
        practice = Practice(LITTLE)
        deeds = (("wait", "p"),) * 52
        for _ in range(8):
            deeds = (("trial", deeds),)
        told = rehearsed(practice, deeds)
        for _ in range(8):
            self.assertEqual(len(told), 1)
            told = told[0]
        self.assertEqual([rung for _, _, rung in told], ["p" * many for many in range(1, 53)])
        self.assertEqual(state(practice)[4:], ("", ""))

    def test_errors_are_raised_as_they_are(self):
        practice = Practice(LITTLE)
        practice.wait("b")
        before = state(practice)
        for deed, kind, told in ((("ring", "px", None), BadCalling, [1]), (("ring", "pp", "p"), BadRung, [-1]),
                                 (("ring", "pp", "px"), BadRung, [1]), (("swap", 2, 2), BadBell, [2]),
                                 (("wait", None), BadCalling, [-1]), (("meant", (1, 2)), BadRow, [(1, 2)])):
            for deeds in ((("wait", "p"), deed), (("wait", "p"), ("trial", (("swap", 1, 2), deed)))):
                self.raises(kind, told, rehearsed, practice, deeds)
                self.assertEqual(state(practice), before)

    def test_within_a_trial(self):
        practice = Practice(LITTLE)
        with Trial(practice):
            practice.wait("p")
            inner = state(practice)
            self.assertEqual(rehearsed(practice, (("wait", "b"),))[0][2], "pb")
            self.assertEqual(state(practice), inner)
        self.assertEqual(practice.rung, "")


if __name__ == "__main__":
    unittest.main()
