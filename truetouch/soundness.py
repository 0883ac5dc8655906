"""Whether all runs of a program come round and are true."""

from truetouch.errors import TooMany
from truetouch.heads import Heads
from truetouch.kinds import by_sum, tuples_below
from truetouch.moves import compose
from truetouch.walks import Walk

MOST_RUNS = 700


class TrueWalk(Walk):
    """A run that ends when a row is rung twice."""

    def __init__(self, program, values, leads):
        super().__init__(program, values)
        self.leads = leads
        self.rung_at = {}
        self.twice = None

    def ring(self, letter):
        """Rings a lead; the run is false if one of its rows was rung before."""
        rows = self.rows_of_lead(letter)
        super().ring(letter)
        for row in rows:
            if row in self.rung_at and self.twice is None:
                self.twice = (self.rung_at[row], len(self.rung_at))
                self.ending = "false"
            elif self.twice is None:
                self.rung_at[row] = len(self.rung_at)

    def rows_of_lead(self, letter):
        """The rows that the lead rings from the present head; they are kept for all runs."""
        key = (self.row, letter)
        if key not in self.leads:
            self.leads[key] = [compose(self.row, row) for row in self.method.body(letter)]
        return self.leads[key]


class Soundness:
    """The verdict whether a program is sound for all values, with the breach if it is not."""

    def __init__(self, program):
        self.program = program
        self.cap = len(Heads(program.method)) + 1
        self.breach = breach_of(program, self.cap)

    def __bool__(self):
        return self.breach is None


def breach_of(program, cap):
    """The least values for which the program is not sound, with what their run tells; None if there are none."""
    many = 1
    for _ in program.variables:
        many = many * (cap + 1)
        if many > MOST_RUNS:
            raise TooMany("value")
    leads = {}
    for row in sorted(tuples_below([cap + 1 for _ in program.variables]), key=by_sum):
        worths = {name: worth for name, worth in zip(program.variables, row)}
        walk = TrueWalk(program, worths, leads)
        walk.go_through()
        if walk.ending != "round":
            return (row, walk.ending, "".join(walk.rung), walk.twice)
    return None
