"""How the runs of a program end for all values, however great."""

from truetouch.headmaps import HeadMaps
from truetouch.kinds import by_sum, kind_of, kinds_told, tuples_below
from truetouch.programs import judge_values


class AllValues:
    """The verdict whether a program is round for all values, with the ends for all kinds of values."""

    def __init__(self, program):
        maps = HeadMaps(program)
        told = kinds_told(maps)
        self.program = program
        self.table = tuple([end_told(maps, row) for row in tuples_below([lag + period for _, lag, period in told])])
        others = [row for row, word, _ in self.table if word != "round"]
        self.least_values = min(others, key=by_sum) if others else None
        self._kinds = told
        self._ends = {row: (word, head) for row, word, head in self.table}

    def end_of(self, values):
        """The word of the run for these values, however great, and the last head."""
        judge_values(self.program, values)
        return self._ends[tuple([kind_of(values[name], lag, period) for name, lag, period in self._kinds])]

    def __bool__(self):
        return self.least_values is None

    def __len__(self):
        return len(self.table)

    def __iter__(self):
        return iter(self.table)


def end_told(maps, row):
    """The row of the table for these kinds of values."""
    worths = {name: worth for name, worth in zip(maps.program.variables, row)}
    at = 0
    for number in maps.outline.top:
        at = maps.of_statement(number, worths)[at]
    if at == maps.home:
        return (row, "round", maps.rows[0])
    if at == maps.endless:
        return (row, "endless", None)
    return (row, "done", maps.rows[at])
