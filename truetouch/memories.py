"""The memories that a conductor needs who sees one bell alone and is to call a calling."""

from truetouch.callings import heads_rung, judge_calling
from truetouch.conductors import MOST_MEMORIES, Conductor
from truetouch.errors import BadBell, BadMany, TooLong, TooMany
from truetouch.falseness import Falseness
from truetouch.forms import is_within
from truetouch.moves import compose, rounds_of, step_between

MOST_LEADS = 12
MOST_CALLINGS = 2000


def memories_needed(method, bell, calling):
    """The fewest memories with which the calling can be followed, None if none are enough."""
    judge_follow(method, bell, calling)
    memories = fewest_memories(method, bell, calling)
    return None if memories is None else many_of(memories)


def conductor_for(method, bell, calling):
    """A conductor with the fewest memories that follows the calling, None if there is none."""
    judge_follow(method, bell, calling)
    memories = fewest_memories(method, bell, calling)
    if memories is None:
        return None
    rows = [[(method.PLAIN, 0) for _ in range(method.stage)] for _ in range(many_of(memories))]
    places = places_seen(method, bell, calling)
    # Which memory he has behind the last lead does not matter, unless an earlier lead at this place tells it.
    for number in range(len(calling) - 1, -1, -1):
        onward = memories[number + 1] if number + 1 < len(calling) else 0
        rows[memories[number]][places[number] - 1] = (calling[number], onward)
    return Conductor(method, bell, rows)


def least_memory(method, bell, many):
    """The fewest memories for a true calling of so many leads that comes round, and the least such calling."""
    if not is_within(bell, 1, method.stage):
        raise BadBell(bell)
    if not is_within(many, 1, MOST_LEADS):
        raise BadMany(many)
    callings = true_rounds(method, many)
    for memories in range(1, MOST_MEMORIES + 1):
        for calling in callings:
            if followed(method, bell, calling, memories) is not None:
                return (memories, calling)
    return None


def judge_follow(method, bell, calling):
    """Raises the error that is due if this is no bell or no calling, or the calling is too long."""
    if not is_within(bell, 1, method.stage):
        raise BadBell(bell)
    judge_calling(calling, method)
    if len(calling) > MOST_LEADS:
        raise TooLong(len(calling))


def places_seen(method, bell, calling):
    """The places of the bell at the heads of the leads."""
    heads = heads_rung(method, calling, rounds_of(method.stage))
    return [head.index(bell) + 1 for head in heads[:-1]]


def many_of(memories):
    """How many memories there are, if these are the ones at the heads."""
    return max([0, *memories]) + 1


def fewest_memories(method, bell, calling):
    """The memories at the heads of the leads, as few different ones as can be, None if there are too many."""
    for many in range(1, MOST_MEMORIES + 1):
        memories = followed(method, bell, calling, many)
        if memories is not None:
            return memories
    return None


def followed(method, bell, calling, many):
    """The memories at the heads of the leads with which one of so many memories follows, None if none does."""
    search = MemorySearch(places_seen(method, bell, calling), calling, many)
    if len(calling) == 0 or search.goes_on():
        return search.memories
    return None


class MemorySearch:
    """Tries memories at the heads of the leads, one after the other."""

    def __init__(self, places, calling, many):
        self.places = places
        self.many = many
        self.apart = leads_apart(places, calling)
        self.memories = [0]
        self.onward = {}

    def goes_on(self):
        """Whether the memories tried so far can be gone on with to the last lead."""
        last = len(self.memories) - 1
        if last == len(self.places) - 1:
            return True
        key = (self.memories[last], self.places[last])
        if key in self.onward:
            return self.tries(self.onward[key])
        # Memories not yet used are all alike, so only the first of them is tried.
        fresh = max(self.memories) + 1
        for memory in range(min(fresh + 1, self.many)):
            self.onward[key] = memory
            if self.tries(memory):
                return True
        del self.onward[key]
        return False

    def tries(self, memory):
        """Whether this memory can be the next one."""
        number = len(self.memories)
        if any([told == memory and (at, number) in self.apart for at, told in enumerate(self.memories)]):
            return False
        self.memories.append(memory)
        if self.goes_on():
            return True
        self.memories.pop()
        return False


def leads_apart(places, calling):
    """The pairs of leads, the earlier one first, which no conductor rings with the same memory."""
    apart = {}
    for later in range(len(places) - 1, 0, -1):
        for at in range(later):
            # With the same memory at the same place all that follows is the same.
            if places[at] == places[later] and (calling[at] != calling[later] or (at + 1, later + 1) in apart):
                apart[at, later] = True
    return apart


def true_rounds(method, many):
    """The callings of so many leads that are true and come round, ascending."""
    falseness = Falseness(method)
    start = rounds_of(method.stage)
    callings = [("", (start,))]
    told = 1
    for _ in range(many):
        callings = [longer for calling, heads in callings for longer in true_longer(falseness, calling, heads)]
        told += len(callings)
        if told > MOST_CALLINGS:
            raise TooMany("calling")
    return [calling for calling, heads in callings if heads[-1] == start]


def true_longer(falseness, calling, heads):
    """The true callings with one more lead, each with its heads."""
    method = falseness.method
    found = []
    for letter in method.letters:
        clashes = [falseness.clash(told, letter, step_between(head, heads[-1])) for head, told in zip(heads, calling)]
        if not falseness.own(letter) and not any(clashes):
            found.append((calling + letter, heads + (compose(heads[-1], method.head(letter)),)))
    return found
