"""Fits: the rows and changes that can have been rung, when a few rows were heard in part."""

from truetouch.changes import change_move, changes, judge_different
from truetouch.errors import BadChange, BadHeard, BadStage, TooMany
from truetouch.forms import as_tuples, is_stage, is_tuple, is_tuple_of
from truetouch.moves import compose, rows_of_stage
from truetouch.patterns import fits_pattern, is_pattern

MOST_BELLS = 6
LEAST_HEARD = 2
MOST_HEARD = 33


class Fit:
    """What all starts and changes that fit what was heard have in common, and how many they are."""

    def __init__(self, stage, heard, allowed=None):
        judge_heard(stage, heard)
        judge_allowed(stage, allowed)
        self.stage = stage
        self.heard = as_tuples(heard)
        self.allowed = tuple(changes(stage)) if allowed is None else as_tuples(allowed)
        self._onward = rows_behind(stage, self.allowed)
        self._ways = ways_told(self._onward, self.heard)
        self.starts = tuple(sorted(self._ways[0]))
        self.number = sum([self._ways[0][start] for start in self.starts])
        self.first = None
        self.last = None
        if self.number > 0:
            self.first = (self.starts[0], lead_from(self.starts[0], 0, self._onward, self._ways))
            self.last = (self.starts[-1], last_lead(self.starts[-1], self._onward, self._ways))
        self.sure = sure_changes(self._onward, self._ways)

    def each_fit(self):
        """All fits, ascending, one by one."""
        for start in self.starts:
            lead = lead_from(start, 0, self._onward, self._ways)
            while lead is not None:
                yield (start, lead)
                lead = lead_behind(start, lead, self._onward, self._ways)


def rows_behind(stage, allowed):
    """For each row of the stage the pairs of an allowed change and the row behind it, ascending."""
    moves = [(change, change_move(change, stage)) for change in sorted(allowed)]
    return {row: [(change, compose(row, move)) for change, move in moves] for row in rows_of_stage(stage)}


def ways_told(onward, heard):
    """For each pattern the rows from which the rest can be rung, each with the number of ways to do so."""
    ways = [{row: 1 for row in onward if fits_pattern(row, heard[-1])}]
    for pattern in heard[-2::-1]:
        behind = ways[-1]
        found = {}
        for row in onward:
            if fits_pattern(row, pattern):
                many = sum([behind.get(led, 0) for _, led in onward[row]])
                if many > 0:
                    found[row] = many
        ways.append(found)
    return ways[::-1]


def steps_from(row, onward, behind):
    """The pairs of a change and a row that can follow, ascending, of which the rest can be rung."""
    return [(change, led) for change, led in onward[row] if led in behind]


def lead_from(row, number, onward, ways):
    """The first changes that fit from a row, which has this number, to the last one."""
    lead = ()
    for behind in ways[number + 1:]:
        change, row = steps_from(row, onward, behind)[0]
        lead = lead + (change,)
    return lead


def last_lead(row, onward, ways):
    """The last changes that fit from the first row on."""
    lead = ()
    for behind in ways[1:]:
        change, row = steps_from(row, onward, behind)[-1]
        lead = lead + (change,)
    return lead


def lead_behind(start, lead, onward, ways):
    """The changes of the next fit from this start, None if there is none."""
    row = start
    rows = [start]
    for change in lead:
        row = [led for told, led in onward[row] if told == change][0]
        rows.append(row)
    for number in range(len(lead) - 1, -1, -1):
        for change, led in steps_from(rows[number], onward, ways[number + 1]):
            if change > lead[number]:
                return lead[:number] + (change,) + lead_from(led, number + 1, onward, ways)
    return None


def sure_changes(onward, ways):
    """For each step the change that all fits make there, None where they do not all make the same one."""
    sure = []
    rows = list(ways[0])
    for behind in ways[1:]:
        steps = [pair for row in rows for pair in steps_from(row, onward, behind)]
        made = {change: True for change, _ in steps}
        sure.append(list(made)[0] if len(made) == 1 else None)
        rows = list({led: True for _, led in steps})
    return tuple(sure)


def judge_heard(stage, heard):
    """Raises the error that is due if the stage is none or too great, or these are no heard rows."""
    if not is_stage(stage):
        raise BadStage(stage)
    if stage > MOST_BELLS:
        raise TooMany("bell")
    if not is_tuple_of(heard, LEAST_HEARD, MOST_HEARD):
        raise BadHeard(-1)
    for number, pattern in enumerate(heard):
        if not is_pattern(pattern, stage):
            raise BadHeard(number)


def judge_allowed(stage, allowed):
    """Raises the error that is due if these are no allowed changes."""
    if allowed is None:
        return
    if not is_tuple(allowed) or len(allowed) == 0:
        raise BadChange(allowed)
    judge_different(allowed, stage)
