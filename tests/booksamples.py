"""Books for the tests, and plain searches over them, which do not use what they test."""

import random

from tests.samples import rung, some_method
from truetouch.books import Book
from truetouch.methods import Method

# Plain leads and bobs lead to 20 heads; the single adds no others.
TWENTY = Method(5, ((1,), (1, 2, 5)), (("b", 0, ((1, 2, 3), (3, 4, 5))), ("s", 0, ((5,), (1, 4, 5)))))


def home(method):
    return (-1, tuple(range(1, method.stage + 1)))


def some_entries(seed, method, many, states=3):
    chance = random.Random(seed)
    entries = []
    for _ in range(many):
        bells = sorted(chance.sample(range(1, method.stage + 1), chance.choice((0, 0, 1, 1, 2))))
        wants = tuple((bell, tuple(sorted(chance.sample(range(1, method.stage + 1), chance.randint(1, method.stage)))))
                      for bell in bells)
        state, onward = chance.randrange(states), chance.randrange(states)
        entries.append((state, wants, chance.choice(method.letters), onward))
    return tuple(entries)


def some_book(seed, states=3):
    """A book over a small method, another one for each seed."""
    method = some_method(seed)
    return Book(method, some_entries(seed, method, 1 + seed % 9, states))


def followers_by_trying(method, entries, standing):
    state, row = standing
    found = set()
    for at, wants, letter, onward in entries:
        if at == state and all(row[place - 1] != bell for bell, places in wants
                               for place in range(1, method.stage + 1) if place not in places):
            led = rung(method, letter, row)[1][-1]
            found.add((letter, (-1 if led == tuple(range(1, method.stage + 1)) else onward, led)))
    return tuple(sorted(found))


class PlainBook:
    """What can be told of a book by going on in it, lead by lead."""

    def __init__(self, book):
        self.book = book
        self.method = book.method
        self.entries = book.entries
        self.first = (0, tuple(range(1, book.method.stage + 1)))
        self.kept = {}

    def followers(self, standing):
        if standing not in self.kept:
            self.kept[standing] = followers_by_trying(self.method, self.entries, standing)
        return self.kept[standing]

    def standings(self, most=10 ** 6):
        """All standings in any order, or more than the most."""
        found = {self.first: True}
        waiting = [self.first]
        while waiting and len(found) <= most:
            for _, onward in self.followers(waiting.pop()):
                if onward not in found:
                    found[onward] = True
                    waiting.append(onward)
        return found

    def callings(self):
        """For each standing its least calling, in order; callings are made lesser until none can be."""
        best = {self.first: ""}
        changed = True
        while changed:
            changed = False
            for standing in list(best):
                for letter, onward in self.followers(standing):
                    calling = best[standing] + letter
                    if onward not in best or by_length(calling) < by_length(best[onward]):
                        best[onward] = calling
                        changed = True
        return dict(sorted(best.items(), key=lambda pair: (by_length(pair[1]), pair[0])))

    def borne(self, most, first=None):
        """For each calling of at most so many letters that is borne, in order, the standings to which it leads."""
        level = {"": [first or self.first]}
        told = dict(level)
        for _ in range(most):
            onward = {}
            for calling, standings in level.items():
                for letter, standing in sorted({pair for member in standings for pair in self.followers(member)}):
                    onward.setdefault(calling + letter, []).append(standing)
            level = onward
            told.update(level)
        return told

    def ways(self, most):
        """All ways of at most so many leads: the calling and the standings that it goes through."""
        level = [("", (self.first,))]
        told = list(level)
        for _ in range(most):
            level = [(calling + letter, way + (onward,)) for calling, way in level
                     for letter, onward in self.followers(way[-1])]
            told += level
        return told

    def has_loop(self, standing):
        """Whether entries lead from the standing back to it."""
        found = {}
        waiting = [standing]
        while waiting:
            for _, onward in self.followers(waiting.pop()):
                if onward not in found:
                    found[onward] = True
                    waiting.append(onward)
        return standing in found


def by_length(calling):
    return (len(calling), calling)


def spoilt_tables(table, chance, others):
    """Tables that differ from this one: rows left out, put in, doubled, moved, or not of the form."""
    table = list(table)
    told = [table, table + table, table[::-1], table[:1] + table, []]
    for _ in range(30):
        rows = list(table)
        for _ in range(chance.randint(1, 2)):
            deed = chance.randrange(4)
            at = chance.randint(0, len(rows))
            if deed == 0:
                rows.insert(at, chance.choice(others))
            elif rows and deed == 1:
                del rows[at % len(rows)]
            elif rows and deed == 2:
                rows.insert(at, chance.choice(rows))
            elif rows:
                rows[at % len(rows)] = chance.choice(others)
        told.append(rows)
    return told


def just_here(row):
    """The wants that this row alone meets."""
    return tuple((bell, (row.index(bell) + 1,)) for bell in range(1, len(row) + 1))


def exactly(many):
    """A book of so many standings, 382 to 402, in which each letter leads to at most one standing."""
    entries = [(state, (), letter, (state + 1) % 20) for state in range(20) for letter in "bp"]
    book = PlainBook(Book(TWENTY, entries))
    found = book.standings()
    starts = [row for state, row in sorted(found) if state == 0 and row != book.first[1]][1:3]
    # Chains of singles lead on, one standing after the other.
    links = [(0 if at == 0 else 19 + at, start, at) for start in starts for at in range(10)]
    for state, start, at in links[:many - len(found)]:
        row = rung(TWENTY, "s" * at, start)[1][-1]
        entries.append((state, just_here(row), "s", 20 + at))
    return Book(TWENTY, entries)


# Each lead is one change, so it rings its head alone, and what is called is true as long as the heads differ.
SHORT = Method(8, ((),), (("b", 0, ((1, 8),)), ("s", 0, ((1, 2, 5, 8),))))


def chain(leads, branch):
    """A true book whose longest calling has so many leads, 41 to 80; another lead branches off behind some of them.

    Behind n leads n trails are told; so there are n of them at each standing of the chain.
    """
    word = "pspsbpbsbsbsbpbpsbsb"
    calling = (word * 5)[:leads]
    heads = rung(SHORT, calling)[1]
    assert len(set(heads)) == leads + 1
    entries = [(state, (), word[state], (state + 1) % 20) for state in range(20)]
    last = leads % 20
    passed = [heads[at] for at in range(last, leads, 20)]
    bell = next(bell for bell in range(1, 9) if heads[-1].index(bell) not in [row.index(bell) for row in passed])
    places = tuple(place for place in range(1, 9) if heads[-1].index(bell) + 1 != place)
    entries[last] = (last, ((bell, places),), word[last], (last + 1) % 20)
    if branch:
        row = heads[branch]
        other = next(letter for letter in "bps" if letter != calling[branch] and rung(SHORT, letter, row)[1][-1] != heads[0])
        entries.append((branch % 20, just_here(row), other, 29))
    return Book(SHORT, entries)


def both_borne(first, second):
    """For each callings' pair of sets of standings, of two plain books, the least such calling; one set can be empty.

    It is gone on only where both books bear the calling.
    """
    start = ((first.first,), (second.first,))
    found = {start: ""}
    waiting = [start]
    for pair in waiting:
        if pair[0] and pair[1]:
            for letter in sorted(first.method.letters):
                onward = tuple(tuple(sorted({standing for member in members for told, standing in book.followers(member)
                                             if told == letter}))
                               for book, members in zip((first, second), pair))
                if (onward[0] or onward[1]) and onward not in found:
                    found[onward] = found[pair] + letter
                    waiting.append(onward)
    return found


def difference(first, second):
    """The least calling that only one of two plain books bears, and which one; None if there is none."""
    for pair, calling in both_borne(first, second).items():
        if not pair[0] or not pair[1]:
            return calling, 0 if pair[0] else 1
    return None
