"""Practices: what was called and what was rung, deed by deed, and trials that leave no trace."""

from truetouch.callings import heads_rung, judge_calling
from truetouch.errors import BadBell, BadRow, BadRung
from truetouch.forms import is_within
from truetouch.moves import exchange, rounds_of, step_between
from truetouch.rows import is_row


class Practice:
    """A practice over a method: the meant and the rung head, and the letters called and rung."""

    def __init__(self, method):
        self.method = method
        self.called = ""
        self.rung = ""
        self._meant = rounds_of(method.stage)
        self._present = rounds_of(method.stage)

    @property
    def meant(self):
        """The meant head, which can be set."""
        return self._meant

    @meant.setter
    def meant(self, value):
        self.set_meant(value)

    @property
    def present(self):
        """The rung head."""
        return self._present

    @property
    def fault(self):
        """The step from the meant head to the rung one."""
        return step_between(self._meant, self._present)

    def set_meant(self, row):
        """Makes this row the meant head."""
        if not is_row(row, self.method.stage):
            raise BadRow(row)
        self._meant = tuple(row)

    def ring(self, calling, rung=None):
        """Rings as many leads as are called, and tells the rung head."""
        judge_calling(calling, self.method)
        letters = calling if rung is None else rung
        judge_rung(letters, len(calling), self.method)
        self._meant = heads_rung(self.method, calling, self._meant)[-1]
        self.called = self.called + calling
        return self.go_on(letters)

    def swap(self, bell, other):
        """Exchanges two bells in the rung head, and tells this."""
        for told in (bell, other):
            if not is_within(told, 1, self.method.stage):
                raise BadBell(told)
        if bell == other:
            raise BadBell(other)
        self._present = exchange(self._present, bell, other)
        return self._present

    def wait(self, calling):
        """Rings the leads of a calling while the meant touch waits, and tells the rung head."""
        judge_calling(calling, self.method)
        return self.go_on(calling)

    def go_on(self, letters):
        """Goes on from the rung head by these leads."""
        self._present = heads_rung(self.method, letters, self._present)[-1]
        self.rung = self.rung + letters
        return self._present

    def copy(self):
        """Another practice, which is equal to this one."""
        twin = Practice(self.method)
        twin.called = self.called
        twin.rung = self.rung
        twin._meant = self._meant
        twin._present = self._present
        return twin

    def __eq__(self, other):
        return (isinstance(other, Practice) and self.method == other.method and self._meant == other._meant
                and self._present == other._present and self.called == other.called and self.rung == other.rung)


class Moment:
    """What a practice is when a trial of it begins, and the moment at which this trial was entered before."""

    def __init__(self, practice, earlier):
        self.old_method = practice.method
        self.old_called = practice.called
        self.old_rung = practice.rung
        self.old_meant = practice.meant
        self.old_present = practice.present
        self.earlier = earlier


class Trial:
    """A block behind which a practice is what it was when the block was entered."""

    def __init__(self, practice):
        self.practice = practice
        # A trial can be entered again within its own block, so the moments hang on one another.
        self.moment = None

    def __enter__(self):
        self.moment = Moment(self.practice, self.moment)
        return self.practice

    def __exit__(self, kind, value, trace):
        practice = self.practice
        practice.method = self.moment.old_method
        practice.called = self.moment.old_called
        practice.rung = self.moment.old_rung
        practice._meant = self.moment.old_meant
        practice._present = self.moment.old_present
        self.moment = self.moment.earlier


def rehearsed(practice, deeds):
    """What is told for deeds that are done one after the other, and then undone."""
    told = []
    with Trial(practice):
        for deed in deeds:
            told.append(told_behind(practice, deed))
    return tuple(told)


def told_behind(practice, deed):
    """Does a deed, and tells the fault and the letters called and rung behind it."""
    word = deed[0]
    if word == "trial":
        return rehearsed(practice, deed[1])
    if word == "ring":
        practice.ring(deed[1], deed[2])
    elif word == "swap":
        practice.swap(deed[1], deed[2])
    elif word == "wait":
        practice.wait(deed[1])
    else:
        practice.set_meant(deed[1])
    return (practice.fault, practice.called, practice.rung)


def judge_rung(rung, many, method):
    """Raises the error that is due if this is no string of so many letters of the method."""
    if not isinstance(rung, str) or len(rung) != many:
        raise BadRung(-1)
    for number, letter in enumerate(rung):
        if letter not in method:
            raise BadRung(number)
