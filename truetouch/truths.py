"""The truth of touches, and of parts that are rung over and over."""

from truetouch.callings import first_repeat
from truetouch.errors import BadCalling, BadTimes
from truetouch.forms import is_integer
from truetouch.moves import compose
from truetouch.rows import order
from truetouch.touches import Touch


class Truth:
    """Whether the touch of a calling is true."""

    def __init__(self, method, calling):
        touch = Touch(method, calling)
        self.method = method
        self.calling = calling
        # Two leads clash exactly if a row is rung in both, so the rows rung tell all clashes.
        self._spots = touch.spots
        self._is_round = touch.is_round

    @property
    def spots(self):
        """The two spots of the first row that is rung again, None if the touch is true."""
        return self._spots

    @property
    def is_round(self):
        """Whether the touch comes round."""
        return self._is_round

    def __bool__(self):
        return self._spots is None


class Parts:
    """How often a part can be rung, one time after the other."""

    def __init__(self, method, part):
        touch = Touch(method, part)
        if len(part) == 0:
            raise BadCalling(-1)
        self.method = method
        self.part = part
        self.order = order(touch.end)
        self.reach = reach_of(touch, self.order)

    def rings_true(self, times):
        """Whether the part, rung so many times, is true."""
        judge_times(times)
        return times <= self.reach

    def comes_round(self, times):
        """Whether the part, rung so many times, comes round."""
        judge_times(times)
        return times % self.order == 0


def reach_of(touch, most):
    """The greatest number of times, up to the most, that a touch can be rung so that this is true."""
    rows = list(touch)
    if first_repeat(rows) is not None:
        return 0
    rung = {row: True for row in rows}
    names = touch.end
    for times in range(1, most):
        # What is rung at a later time is the part renamed; any two times clash as the first and one of these do.
        if any([compose(names, row) in rung for row in rows]):
            return times
        names = compose(names, touch.end)
    return most


def judge_times(times):
    """Raises the error that is due if this is no number of times from 1 on."""
    if not is_integer(times) or times < 1:
        raise BadTimes(times)
