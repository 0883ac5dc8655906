"""Runs of programs."""

from truetouch.callings import MOST_LETTERS
from truetouch.errors import TooMany
from truetouch.programs import MOST_COUNT, judge_values
from truetouch.walks import Walk


class ShortWalk(Walk):
    """A run of a bounded number of leads."""

    def ring(self, letter):
        """Rings a lead, if it is not one too much."""
        if len(self.rung) == MOST_LETTERS:
            raise TooMany("lead")
        super().ring(letter)


def run(program, values):
    """The word and the calling of the run for these values."""
    judge_values(program, values, MOST_COUNT)
    walk = ShortWalk(program, values)
    walk.go_through()
    return walk.ending, "".join(walk.rung)
