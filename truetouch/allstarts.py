"""Whether a conductor brings the bells home from all heads."""

from truetouch.conductors import going_on, led_on
from truetouch.forms import is_rank, is_tuple_of, is_within
from truetouch.heads import Heads
from truetouch.moves import rounds_of
from truetouch.rows import is_row
from truetouch.tables import first_ranks, first_wrong, rows_of


class AllStarts:
    """The verdict whether he brings the bells home from all heads, with the pairs he goes through, or a breach."""

    def __init__(self, conductor):
        ranks, lost = pairs_gone_through(conductor, list(Heads(conductor.method)))
        self.breach = None
        if lost is not None:
            # Rounds never comes from here, and to come to the start row again does not matter: no row is the goal.
            _, calling, loop = going_on(conductor, lost, None)
            self.breach = (lost, calling, loop)
        self.table = None
        if lost is None:
            self.table = tuple([(memory, row, rank) for (memory, row), rank in ranks.items()])
        self._rows = self.table if lost is None else ()

    def __bool__(self):
        return self.breach is None

    def __len__(self):
        return len(self._rows)

    def __iter__(self):
        return iter(self._rows)


def pairs_gone_through(conductor, heads):
    """For each pair of memory and row that he goes through its rank, in order, and the first head that is lost."""
    ranks = {}
    for head in heads:
        way = way_home(conductor, (0, head), ranks)
        if way is None:
            return ranks, head
        last = way.pop()
        rank = ranks.get(last, 0) + len(way)
        for number, pair in enumerate(way):
            ranks[pair] = rank - number
        ranks.setdefault(last, 0)
    return ranks, None


def way_home(conductor, start, ranks):
    """The pairs from the start to the first with rounds, or to the first that has a rank; None if none comes."""
    home = rounds_of(conductor.method.stage)
    way = [start]
    seen = {start: True}
    while way[-1][1] != home and way[-1] not in ranks:
        _, pair = led_on(conductor, way[-1][0], way[-1][1])
        if pair in seen:
            return None
        seen[pair] = True
        way.append(pair)
    return way


def judge_starts(conductor, table):
    """Judges a table of pairs of memory and row, with their ranks."""
    heads = list(Heads(conductor.method))
    rows = [ranked_pair(row, conductor) for row in rows_of(table)]
    ranks = first_ranks(rows)
    if not all([(0, head) in ranks for head in heads]):
        return -1
    return first_wrong([row is not None and goes_home(conductor, row, ranks) for row in rows])


def ranked_pair(thing, conductor):
    """The pair of memory and row with its rank that a row of a table tells, None if it does not have this form."""
    if not is_tuple_of(thing, 3, 3):
        return None
    memory, row, rank = thing
    if not is_within(memory, 0, len(conductor) - 1) or not is_row(row, conductor.method.stage) or not is_rank(rank):
        return None
    return ((memory, tuple(row)), rank)


def goes_home(conductor, told, ranks):
    """Whether the row is rounds, or the next pair has a lesser rank."""
    (memory, row), rank = told
    if row == rounds_of(conductor.method.stage):
        return True
    _, onward = led_on(conductor, memory, row)
    return onward in ranks and ranks[onward] < rank
