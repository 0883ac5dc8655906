"""Methods for the tests, and plain searches of their own, which do not use what they test."""

import itertools
import random

from truetouch.methods import Method

LITTLE = Method(4, ((), (1, 4), (), (1, 4), (), (1, 4), (), (1, 2)), (("b", 7, ((1, 4),)), ("s", 7, ((1, 2, 3, 4),))))
THREE = Method(3, ((1,), (3,)), (("b", 1, ((1, 2, 3),)), ("a", 0, ((3,),))))
FIVE = Method(5, ((5,), (1,), (5,), (1, 2, 3)), (("b", 3, ((1,),)), ("s", 2, ((1, 4, 5), (3, 4, 5)))))

# With 720 heads, and with more than 800.
SIX = Method(6, ((1, 2),), (("b", 0, ((1, 6),)), ("s", 0, ((),))))
SEVEN = Method(7, ((1, 2, 3),), (("b", 0, ((1,),)), ("s", 0, ((7,),))))


def shuffled_rows(stage):
    return list(itertools.permutations(range(1, stage + 1)))


def plain_changes(stage):
    """All changes, by trying all tuples of kept places."""
    found = []
    for many in range(stage + 1):
        for kept in itertools.combinations(range(1, stage + 1), many):
            runs = "".join("k" if place in kept else "." for place in range(1, stage + 1)).split("k")
            if all(len(run) % 2 == 0 for run in runs):
                found.append(kept)
    return sorted(found)


def change_row(row, change):
    """The row behind a change, by letting neighbours cross from the front."""
    row = list(row)
    place = 1
    while place < len(row):
        if place in change:
            place += 1
        else:
            row[place - 1], row[place] = row[place], row[place - 1]
            place += 2
    return tuple(row)


def lead_of(method, letter):
    lead = list(method.plain)
    for told, at, changes in method.calls:
        if told == letter:
            lead[at:at + len(changes)] = changes
    return lead


def rung(method, calling, start=None):
    """The rows rung, and the heads, change by change."""
    row = tuple(start or range(1, method.stage + 1))
    rows, heads = [], [row]
    for letter in calling:
        for change in lead_of(method, letter):
            rows.append(row)
            row = change_row(row, change)
        heads.append(row)
    return rows, heads


def repeat_of(rows):
    """The two spots of the first row that is rung again."""
    for later, row in enumerate(rows):
        if row in rows[:later]:
            return (rows.index(row), later)
    return None


def callings(letters, most):
    """All callings of at most so many letters, the least ones first."""
    for many in range(most + 1):
        for calling in itertools.product(sorted(letters), repeat=many):
            yield "".join(calling)


def some_method(seed):
    """A small method, another one for each seed."""
    chance = random.Random(seed)
    stage = chance.choice((3, 4, 4, 5))
    changes = plain_changes(stage)
    size = chance.randint(1, 5)
    plain = tuple(chance.choice(changes) for _ in range(size))
    calls = []
    for letter in chance.sample("abcqz", chance.randint(0, 3)):
        many = chance.randint(1, size)
        at = chance.randint(0, size - many)
        calls.append((letter, at, tuple(chance.choice(changes) for _ in range(many))))
    return Method(stage, plain, tuple(calls))


def listed(thing):
    """The same thing with lists for all tuples."""
    return [listed(part) for part in thing] if isinstance(thing, tuple) else thing


def spoil(thing):
    """Changes all lists within a thing, so that whatever still holds them is changed, too."""
    if isinstance(thing, list):
        for part in thing:
            spoil(part)
        thing.clear()
