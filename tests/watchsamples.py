"""A plain watcher for the tests, who keeps all possibilities as sets, and does not use what is tested."""

from tests.bandsamples import plain_heads
from tests.samples import rung


class PlainWatcher:

    def __init__(self, method, places, slips):
        self.method, self.places, self.slips = method, places, slips
        self.first = frozenset((head, 0) for head in plain_heads(method))
        self.kept = {}

    def led(self, row, letter):
        if (row, letter) not in self.kept:
            self.kept[row, letter] = rung(self.method, letter, row)[1][-1]
        return self.kept[row, letter]

    def steps(self, knowledge):
        """For each step that is possible the knowledge behind it."""
        told = {}
        for letter in self.method.letters:
            for row, made in knowledge:
                for other in self.method.letters:
                    more = 0 if other == letter or self.slips is None else 1
                    if self.slips is None or made + more <= self.slips:
                        head = self.led(row, other)
                        bells = tuple(head[place - 1] for place in self.places)
                        told.setdefault((letter, bells), set()).add((head, made + more))
        return {step: frozenset(told[step]) for step in sorted(told)}

    def all_steps(self, most=10 ** 6):
        """The steps of each knowledge, in order of their least ways, and these ways; None if there are too many."""
        ways = {self.first: ()}
        steps = {}
        level = [self.first]
        while level:
            found = {}
            for knowledge in level:
                steps[knowledge] = self.steps(knowledge)
                for step, onward in steps[knowledge].items():
                    if onward not in ways:
                        found.setdefault(onward, []).append(ways[knowledge] + (step,))
            level = sorted(found, key=lambda knowledge: min(found[knowledge]))
            ways.update({knowledge: min(found[knowledge]) for knowledge in level})
            if len(ways) > most:
                return None, None
        return {knowledge: steps[knowledge] for knowledge in ways}, ways


def is_in_doubt(knowledge):
    return len({row for row, _ in knowledge}) > 1


def told(knowledge):
    return tuple(sorted(knowledge))


def longest_doubt(steps):
    """For each knowledge the greatest number in doubt that follow one another; None if they need not end."""
    rank = {knowledge: 0 for knowledge in steps}
    for number in range(len(steps) + 2):
        onward = {knowledge: 1 + max([rank[led] for led in steps[knowledge].values()] or [0]) if is_in_doubt(knowledge) else 0
                  for knowledge in steps}
        if onward == rank:
            return rank
        rank = onward
    return None


def least_loop(steps, start):
    """The least way in doubt back to the start, by all that can be come to with so many steps."""
    level = {start: ()}
    for _ in range(len(steps) + 1):
        onward = {}
        for knowledge, way in level.items():
            for step, led in steps[knowledge].items():
                if is_in_doubt(led):
                    onward[led] = min(onward.get(led, way + (step,)), way + (step,))
        if start in onward:
            return onward[start]
        level = onward
    return None


def plain_watch(method, places, slips):
    """What is told: the table and the delay, or the way and the loop."""
    steps, ways = PlainWatcher(method, places, slips).all_steps()
    ranks = longest_doubt(steps)
    if ranks is not None:
        return tuple((told(knowledge), ranks[knowledge]) for knowledge in steps), max(ranks.values()), None, None
    for knowledge in steps:
        loop = least_loop(steps, knowledge) if is_in_doubt(knowledge) else None
        if loop is not None:
            return None, None, ways[knowledge], loop
    return None
