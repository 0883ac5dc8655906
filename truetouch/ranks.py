"""Ranks: the greatest number of steps that can follow, where no loop can be come to."""


def ranks_of(behind):
    """For each thing from which no loop can be come to, the greatest number of steps that can follow it.

    What is behind each thing is told by a dict of tuples of things, each of which is itself in the dict.
    """
    waiting = {thing: len(onward) for thing, onward in behind.items()}
    ahead = {thing: [] for thing in behind}
    for thing, onward in behind.items():
        for other in onward:
            ahead[other].append(thing)
    ready = [thing for thing in behind if waiting[thing] == 0]
    ranks = {thing: 0 for thing in ready}
    at = 0
    while at < len(ready):
        last = ready[at]
        for thing in ahead[last]:
            waiting[thing] -= 1
            if waiting[thing] == 0:
                ranks[thing] = 1 + max([ranks[other] for other in behind[thing]])
                ready.append(thing)
        at += 1
    return ranks
