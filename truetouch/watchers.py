"""Watchers: whether somebody who sees some of the places comes to know the head."""

from truetouch.errors import BadPlaces, BadSlips, TooMany
from truetouch.forms import as_tuples, is_ascending, is_rank, is_tuple_of, is_within
from truetouch.heads import Heads
from truetouch.ranks import ranks_of
from truetouch.sights import Sight, is_doubtful
from truetouch.spreads import codes_told
from truetouch.tables import first_ranks, first_wrong, rows_of

MOST_SLIPS = 3
MOST_KNOWLEDGES = 400


class Watch:
    """The verdict whether the doubt always ends, with the ranks of the knowledges, or the loop of doubt."""

    def __init__(self, method, places, slips):
        judge_watched(method, places, slips)
        self.method = method
        self.places = as_tuples(places)
        self.slips = slips
        self._sight = Sight(method, self.places, slips)
        found = Knowledges(self._sight)
        ranks = found.doubt_ranks()
        self.way, self.loop = found.lasting_doubt(ranks)
        self.delay = None
        self.table = None
        if self.loop is None:
            self.delay = max(ranks)
            self.table = tuple([(self._sight.spread.nodes_told(knowledge), rank)
                                for knowledge, rank in zip(found.listed, ranks)])
        self._rows = self.table if self.loop is None else ()

    def after(self, way):
        """The knowledge behind a way, which is empty if a step of it is not possible."""
        knowledge = self._sight.first_knowledge()
        for letter, bells in way:
            knowledge = self._sight.steps_by(knowledge, letter).get(as_tuples(bells), ())
        return self._sight.spread.nodes_told(knowledge)

    def __bool__(self):
        return self.loop is None

    def __len__(self):
        return len(self._rows)

    def __iter__(self):
        return iter(self._rows)


class Knowledges:
    """All knowledges in order, by their numbers, with the least ways to them and the steps from them."""

    def __init__(self, sight):
        first = sight.first_knowledge()
        self.listed = [first]
        self.ways = [()]
        # For each knowledge pairs of a step and the number of the knowledge behind it.
        self.steps = []
        numbers = {first: 0}
        while len(self.steps) < len(self.listed):
            at = len(self.steps)
            told = sight.steps_from(self.listed[at])
            for step, knowledge in told:
                if knowledge not in numbers:
                    if len(self.listed) == MOST_KNOWLEDGES:
                        raise TooMany("knowledge")
                    numbers[knowledge] = len(self.listed)
                    self.listed.append(knowledge)
                    self.ways.append(self.ways[at] + (step,))
            self.steps.append([(step, numbers[knowledge]) for step, knowledge in told])
        self.doubtful = [is_doubtful(knowledge) for knowledge in self.listed]

    def doubt_ranks(self):
        """For each number how many knowledges in doubt can follow from this one on, None if they never need to end."""
        behind = {}
        for at, steps in enumerate(self.steps):
            if self.doubtful[at]:
                behind[at] = tuple(sorted({number for _, number in steps if self.doubtful[number]}))
        ranks = ranks_of(behind)
        return [None if is_in_doubt and at not in ranks else ranks.get(at, -1) + 1
                for at, is_in_doubt in enumerate(self.doubtful)]

    def lasting_doubt(self, ranks):
        """The least way to the first knowledge that has a loop of doubt, and its least loop; two None without one."""
        for at, way in enumerate(self.ways):
            loop = self.least_loop(at) if ranks[at] is None else None
            if loop is not None:
                return way, loop
        return None, None

    def least_loop(self, start):
        """The least way in doubt from a knowledge back to it, None if there is none."""
        ways = {start: ()}
        waiting = [start]
        at = 0
        while at < len(waiting):
            present = waiting[at]
            for step, number in self.steps[present]:
                if number == start:
                    return ways[present] + (step,)
                if self.doubtful[number] and number not in ways:
                    ways[number] = ways[present] + (step,)
                    waiting.append(number)
            at += 1
        return None


def judge_watch(method, places, slips, table):
    """Judges a table of knowledges with their ranks."""
    judge_watched(method, places, slips)
    sight = Sight(method, as_tuples(places), slips)
    first = sight.first_knowledge()
    rows = [ranked_knowledge(row, sight) for row in rows_of(table)]
    ranks = first_ranks(rows)
    if first not in ranks:
        return -1
    return first_wrong([row is not None and doubt_ends(sight, row, ranks) for row in rows])


def ranked_knowledge(thing, sight):
    """The knowledge and the rank that a row of a table tells, None if it does not have this form."""
    if not is_tuple_of(thing, 2, 2) or not is_rank(thing[1]):
        return None
    codes = codes_told(thing[0], sight.spread)
    return None if codes is None else (codes, thing[1])


def doubt_ends(sight, told, ranks):
    """Whether all knowledges behind are told, and, if this one is in doubt, those in doubt have lesser ranks."""
    knowledge, rank = told
    is_in_doubt = is_doubtful(knowledge)
    if is_in_doubt and rank == 0:
        return False
    for _, onward in sight.steps_from(knowledge):
        if onward not in ranks:
            return False
        if is_in_doubt and is_doubtful(onward) and ranks[onward] >= rank:
            return False
    return True


def judge_watched(method, places, slips):
    """Raises the error that is due if these are no places of the method, or no number of slips."""
    if not is_ascending(places, 1, method.stage):
        raise BadPlaces(places)
    judge_slip_number(slips)
    # A method whose heads are too many is refused here.
    Heads(method)


def judge_slip_number(slips):
    """Raises the error that is due if this is no number of slips, nor None for any number."""
    if slips is not None and not is_within(slips, 0, MOST_SLIPS):
        raise BadSlips(slips)
