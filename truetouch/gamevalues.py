"""The least number of steps within which a goal is surely come to, whatever an opponent does.

From each number steps are told in groups of different numbers. If the opponent begins, he chooses one of
the groups, and then the conductor a step in it; otherwise the conductor chooses one of the groups, and then
the opponent a step in it.
"""

NO_VALUE = -1


def values_of(groups, goals, opponent_begins):
    """For each number the least number of steps to a goal, -1 where none is surely come to."""
    tally = Tally(groups, opponent_begins)
    values = [NO_VALUE for _ in groups]
    for goal in goals:
        values[goal] = 0
    ready = list(goals)
    at = 0
    # Numbers become ready in the order of their values, so each one is come to by its least value first.
    while at < len(ready):
        member = ready[at]
        for number in tally.settled_by(member):
            if values[number] == NO_VALUE:
                values[number] = values[member] + 1
                ready.append(number)
        at += 1
    return values


class Tally:
    """Counts for each number the groups, and for each group the steps, that still need a value."""

    def __init__(self, groups, opponent_begins):
        self.steps_open = [[1 if opponent_begins else len(group) for group in told] for told in groups]
        self.groups_open = [len(told) if opponent_begins else 1 for told in groups]
        self.ahead = [[] for _ in groups]
        for number, choices in enumerate(groups):
            for which, members in enumerate(choices):
                for member in members:
                    self.ahead[member].append((number, which))

    def settled_by(self, member):
        """The numbers that need no further value when this one has got its value."""
        found = []
        for number, which in self.ahead[member]:
            self.steps_open[number][which] -= 1
            if self.steps_open[number][which] == 0:
                self.groups_open[number] -= 1
                if self.groups_open[number] == 0:
                    found.append(number)
        return found
