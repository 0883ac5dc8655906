"""Mends: callings that move a fault to rounds, while the meant touch waits."""

from truetouch.errors import BadRow, NoMend
from truetouch.faults import faults_of
from truetouch.heads import Heads
from truetouch.moves import inverse, step_between
from truetouch.rows import is_row


class Mends:
    """The mends of all faults of a method that have one, which are its heads."""

    def __init__(self, method):
        callings = Heads(method)
        self.method = method
        # What moves a fault to rounds moves rounds to the undone fault.
        self._mends = {fault: callings[inverse(fault)] for fault in callings}

    def worst(self, kind):
        """The greatest number of letters of a mend for the faults of this kind, or the first fault without one."""
        faults = faults_of(self.method, kind)
        lost = [fault for fault in faults if fault not in self._mends]
        if lost:
            return ("none", lost[0])
        lengths = [len(self._mends[fault]) for fault in faults]
        if not lengths:
            return ("mends", 0, None)
        return ("mends", max(lengths), faults[lengths.index(max(lengths))])

    def __call__(self, row, goal):
        for told in (row, goal):
            if not is_row(told, self.method.stage):
                raise BadRow(told)
        fault = step_between(goal, row)
        if fault not in self._mends:
            raise NoMend(fault)
        return self._mends[fault]

    def __contains__(self, x):
        return is_row(x, self.method.stage) and tuple(x) in self._mends

    def __len__(self):
        return len(self._mends)

    def __iter__(self):
        return iter(self._mends)

    def __getitem__(self, at):
        if at not in self:
            raise NoMend(at)
        return self._mends[tuple(at)]
