"""Promise 38: watchers, knowledges, doubt, and the judge of the table."""

import itertools
import random
import unittest

from tests.asserts import TouchCase
from tests.bandsamples import lettered_method, method_of, plain_heads
from tests.booksamples import spoilt_tables
from tests.samples import LITTLE, SEVEN, SIX, listed, rung, some_method
from tests.watchsamples import PlainWatcher, is_in_doubt, plain_watch, told
from truetouch.errors import BadPlaces, BadSlips, TooMany
from truetouch.methods import Method
from truetouch.watchers import Watch, judge_watch

# With exactly 400 knowledges for the place 3 and 2 slips.
FORTY = method_of((2, 5, 1, 4, 7, 3, 6), (4, 3, 2, 1, 7, 6, 5), (3, 1, 6, 4, 2, 7, 5))
STILL = Method(3, ((1, 2, 3),), (("b", 0, ((1, 2, 3),)),))


def told_by(watch):
    return (watch.table, watch.delay, watch.way, watch.loop)


def some_watches(many, heads=24):
    for seed in range(many):
        chance = random.Random(seed)
        method = lettered_method(seed, 3) if seed % 2 else some_method(seed)
        places = tuple(sorted(chance.sample(range(1, method.stage + 1), chance.randint(0, method.stage))))
        slips = chance.choice((0, 1, 2, 3, None))
        if len(plain_heads(method)) <= heads and PlainWatcher(method, places, slips).all_steps(150)[0]:
            yield method, places, slips


def possibilities(method, places, slips, way):
    """What fits what was called and seen, by all starts and all that can have been rung."""
    found = set()
    for head in plain_heads(method):
        for letters in itertools.product(method.letters, repeat=len(way)):
            made = sum(letter != called for letter, (called, _) in zip(letters, way))
            if slips is None or made <= slips:
                heads = rung(method, letters, head)[1]
                if all(tuple(row[place - 1] for place in places) == bells for row, (_, bells) in zip(heads[1:], way)):
                    found.add((heads[-1], 0 if slips is None else made))
    return tuple(sorted(found))


def is_form(row, method, slips):
    if not isinstance(row, (tuple, list)) or len(row) != 2 or type(row[1]) is not int or row[1] < 0:
        return False
    knowledge = row[0]
    if not isinstance(knowledge, (tuple, list)) or not knowledge:
        return False
    for pair in knowledge:
        if not isinstance(pair, (tuple, list)) or len(pair) != 2 or not isinstance(pair[0], (tuple, list)):
            return False
        if not all(type(bell) is int for bell in pair[0]) or sorted(pair[0]) != list(range(1, method.stage + 1)):
            return False
        if type(pair[1]) is not int or not 0 <= pair[1] <= (slips or 0):
            return False
    pairs = [(tuple(head), made) for head, made in knowledge]
    return pairs == sorted(set(pairs))


def plain_judge(method, places, slips, table):
    plain = PlainWatcher(method, places, slips)
    good = [(frozenset((tuple(head), made) for head, made in row[0]), row[1]) if is_form(row, method, slips) else None
            for row in table]
    ranks = {}
    for row in good:
        if row:
            ranks.setdefault(*row)
    if plain.first not in ranks:
        return -1
    for number, row in enumerate(good):
        if row is None:
            return number
        behind = plain.steps(row[0]).values()
        if any(knowledge not in ranks for knowledge in behind):
            return number
        if is_in_doubt(row[0]) and (row[1] < 1 or any(is_in_doubt(knowledge) and ranks[knowledge] >= row[1]
                                                      for knowledge in behind)):
            return number
    return None


class Verdicts(TouchCase):

    def test_against_a_plain_watcher(self):
        delays, loops = set(), set()
        for method, places, slips in some_watches(260):
            watch = Watch(method, places, slips)
            wanted = plain_watch(method, places, slips)
            self.assertEqual(told_by(watch), wanted)
            self.assertIs(bool(watch), wanted[0] is not None)
            self.assertEqual((len(watch), list(watch)), (len(wanted[0] or ()), list(wanted[0] or ())))
            self.assertEqual((watch.method, watch.places, watch.slips), (method, places, slips))
            if watch:
                self.assertIsNone(judge_watch(method, places, slips, watch.table))
                self.assertIsNone(judge_watch(method, listed(places), slips, listed(watch.table)))
                delays.add(watch.delay)
            else:
                loops.add((len(watch.way) > 0, len(watch.loop)))
        self.assertTrue({0, 1, 2, 4} <= delays, delays)
        self.assertTrue({(False, 1), (True, 1)} < loops, loops)

    def test_knowledges_against_all_possibilities(self):
        chance = random.Random(2)
        emptied = 0
        for method, places, slips in some_watches(60, 12):
            watch = Watch(method, places, slips)
            rows = sorted(plain_heads(method))
            for _ in range(8):
                way = []
                for _ in range(chance.randint(0, 3)):
                    way.append((chance.choice(method.letters), tuple(chance.choice(rows)[place - 1] for place in places)))
                wanted = possibilities(method, places, slips, way)
                self.assertEqual(watch.after(tuple(way)), wanted)
                self.assertEqual(watch.after(listed(tuple(way))), wanted)
                emptied += wanted == ()
        self.assertGreater(emptied, 20)

    def test_ways_lead_to_the_knowledges(self):
        for method, places, slips in some_watches(60):
            watch = Watch(method, places, slips)
            steps, ways = PlainWatcher(method, places, slips).all_steps()
            for knowledge in list(ways)[:12]:
                self.assertEqual(watch.after(ways[knowledge]), told(knowledge))
            if not watch:
                here = watch.after(watch.way)
                self.assertTrue(is_in_doubt(here))
                self.assertEqual(watch.after(watch.way + watch.loop), here)

    def test_empty_way_and_impossible_steps(self):
        watch = Watch(LITTLE, (1, 2), 1)
        self.assertEqual(watch.after(()), tuple((head, 0) for head in sorted(plain_heads(LITTLE))))
        self.assertEqual(watch.after([]), watch.after(()))
        self.assertEqual(watch.after((("p", (2, 1)),)), ())
        self.assertEqual(watch.after((("p", (2, 1)), ("p", (1, 2)))), ())
        self.assertEqual(watch.after((("p", (1, 9)),)), ())

    def test_all_places_and_none(self):
        for slips in (0, 1, 2, 3, None):
            everything = Watch(LITTLE, (1, 2, 3, 4), slips)
            self.assertTrue(everything)
            # At first any head can be the one, from the next one on the row is seen.
            self.assertEqual(everything.delay, 1)
            nothing = Watch(LITTLE, (), slips)
            self.assertFalse(nothing)
            self.assertEqual(nothing.loop[0], ("b", ()))
            self.assertEqual((nothing.way, nothing.table, nothing.delay, len(nothing)),
                             ((("b", ()),) * {1: 1, 2: 2, 3: 3}.get(slips, 0), None, None, 0))
        self.assertEqual(told_by(Watch(STILL, (), 1)), (
            (((((1, 2, 3), 0),), 0), ((((1, 2, 3), 0), ((1, 2, 3), 1)), 0)), 0, None, None))
        self.assertEqual(len(Watch(Method(3, ((1, 2, 3),)), (), 3)), 1)

    def test_slips_are_no_doubt(self):
        # The same head with other numbers of mistakes is one head.
        watch = Watch(STILL, (), 2)
        self.assertEqual([rank for _, rank in watch], [0, 0, 0])
        self.assertEqual(watch.delay, 0)

    def test_any_number_is_not_counted(self):
        watch = Watch(LITTLE, (1, 2, 3, 4), None)
        self.assertEqual({made for knowledge, _ in watch for _, made in knowledge}, {0})
        self.assertNotEqual(told_by(Watch(LITTLE, (1, 2, 3), 3)), told_by(Watch(LITTLE, (1, 2, 3), None)))

    def test_number_of_knowledges(self):
        watch = Watch(FORTY, (3,), 2)
        self.assertEqual((bool(watch), len(watch), watch.delay), (True, 400, 6))
        self.assertIsNone(judge_watch(FORTY, (3,), 2, watch.table))
        method = lettered_method(36766, 5)
        steps, _ = PlainWatcher(method, (3,), 3).all_steps()
        self.assertEqual(len(steps), 401)
        self.raises(TooMany, ["knowledge"], Watch, method, (3,), 3)
        self.raises(TooMany, ["knowledge"], Watch, SIX, (1,), 0)
        self.assertFalse(Watch(SIX, (), 3))

    def test_more_knowledges_than_are_listed_are_judged(self):
        method = lettered_method(36766, 5)
        steps, _ = PlainWatcher(method, (3,), 3).all_steps()
        ranks = plain_watch(method, (3,), 3)[0]
        self.assertEqual(len(ranks), 401)
        self.assertIsNone(judge_watch(method, (3,), 3, ranks))

    def test_errors_in_order(self):
        for places in ((2, 1), (1, 1), (0, 1), (1, 5), (True, 2), None, "12", 3, (1, None), [4, 3], {}):
            error = self.raises(BadPlaces, [places], Watch, LITTLE, places, 9)
            self.assertIs(error.places, places)
            self.raises(BadPlaces, [places], judge_watch, LITTLE, places, 9, None)
        for slips in (-1, 4, True, False, "1", (), 10 ** 39, [1]):
            self.assertIs(self.raises(BadSlips, [slips], Watch, LITTLE, (1,), slips).slips, slips)
            self.raises(BadSlips, [slips], judge_watch, SEVEN, (1,), slips, None)
        self.raises(TooMany, ["head"], Watch, SEVEN, (1, 2), None)
        self.raises(TooMany, ["head"], Watch, SEVEN, (), 0)
        self.raises(TooMany, ["head"], judge_watch, SEVEN, (), 0, None)
        self.raises(BadPlaces, [(1, 8)], Watch, SEVEN, (1, 8), 0)

    def test_lists(self):
        places = [1, 3]
        watch = Watch(LITTLE, places, 1)
        wanted = told_by(watch)
        places.append(4)
        self.assertEqual((watch.places, told_by(watch)), ((1, 3), wanted))
        self.assertEqual(watch.after([["p", [1, 3]]]), Watch(LITTLE, (1, 3), 1).after((("p", (1, 3)),)))

    def test_by_turns(self):
        told = list(itertools.islice(some_watches(40), 12))
        watches = [Watch(*arguments) for arguments in told]
        for watch, arguments in zip(watches, told):
            before = watch.after(((arguments[0].letters[0], tuple(range(1, len(arguments[1]) + 1))),))
            self.assertEqual(told_by(watch), told_by(Watch(*arguments)))
            self.assertEqual(watch.after(((arguments[0].letters[0], tuple(range(1, len(arguments[1]) + 1))),)), before)


class Tables(TouchCase):

    def test_spoilt_tables(self):
        results = set()
        chance = random.Random(8)
        for method, places, slips in some_watches(160, 12):
            watch = Watch(method, places, slips)
            table = watch.table or tuple((told(knowledge), 3) for knowledge in PlainWatcher(method, places, slips).all_steps()[0])
            if len(table) > 40:
                continue
            first = table[0][0]
            row = first[0][0]
            others = [None, (), "row", (first,), (first, -1), (first, True), (first, None), (first, 1, 2), ((), 1), (None, 1),
                      (first + first, 2), (first[::-1], 2), ((row,), 1), (((row, 9),), 1), (((row, True),), 1),
                      (((row, 0), (row[::-1], 0)), 4), (((row[::-1], 0),), 1), (((row[::-1], 0),), 0), (((row, -1),), 1),
                      (((row[1:], 0),), 1), (((row, 0, 0),), 1), (((row, 1),), 2), (((row, 0), (row, 1)), 0), ("ab", 1),
                      (((row, 0), None), 1), (((row, 0), (row, 9)), 1)]
            others += [(knowledge, max(0, rank + more)) for knowledge, rank in table for more in (-1, 1)]
            others += [(knowledge, 10 ** 39) for knowledge, _ in table[:2]]
            for spoilt in spoilt_tables(table, chance, others):
                wanted = plain_judge(method, places, slips, spoilt)
                self.assertEqual(judge_watch(method, places, slips, tuple(spoilt)), wanted)
                self.assertEqual(judge_watch(method, places, slips, listed(tuple(spoilt))), wanted)
                results.add(wanted)
        self.assertGreater(len(results), 6)
        self.assertIn(None, results)

    def test_ranks(self):
        watch = Watch(LITTLE, (1, 2, 3, 4), 0)
        table = watch.table
        self.assertEqual(table[0][1], 1)
        greater = tuple((knowledge, rank + 5) for knowledge, rank in table)
        self.assertIsNone(judge_watch(LITTLE, (1, 2, 3, 4), 0, greater))
        self.assertEqual(judge_watch(LITTLE, (1, 2, 3, 4), 0, ((table[0][0], 0),) + table[1:]), 0)
        # The first of several rows for one knowledge tells its rank, but each row is judged by its own.
        self.assertEqual(judge_watch(LITTLE, (1, 2, 3, 4), 0, table + ((table[0][0], 0),)), len(table))
        self.assertIsNone(judge_watch(LITTLE, (1, 2, 3, 4), 0, table + table))
        for thing in (None, (), "table", 3, {}):
            self.assertEqual(judge_watch(LITTLE, (1, 2, 3, 4), 0, thing), -1)


if __name__ == "__main__":
    unittest.main()
