"""Ringings with slips: leads that are mistaken, changes that are crossed, bells that are swapped."""

from truetouch.callings import heads_rung, judge_calling
from truetouch.changes import change_move, is_change
from truetouch.errors import BadSlip, NoSpot, TooMany
from truetouch.exchanges import is_exchange
from truetouch.forms import as_tuples, is_tuple, is_tuple_of, is_within
from truetouch.moves import compose, exchange, inverse, rounds_of, step_between
from truetouch.touches import Touch

MOST_SLIPS = 20


class Ringing:
    """A calling that is rung from rounds with slips."""

    def __init__(self, method, calling, slips=()):
        judge_calling(calling, method)
        judge_slips(method, calling, slips)
        self.method = method
        self.calling = calling
        self.slips = as_tuples(slips)
        self._heads, self._rows = rung_with_slips(method, calling, self.slips)
        meant = heads_rung(method, calling, rounds_of(method.stage))
        self._faults = tuple([step_between(head, rung) for head, rung in zip(meant, self._heads)])
        self._names = tuple([compose(rung, inverse(head)) for head, rung in zip(meant, self._heads)])

    @property
    def heads(self):
        """The rung head of each lead, and the end."""
        return self._heads

    @property
    def end(self):
        """The last rung head, which is not rung."""
        return self._heads[-1]

    @property
    def faults(self):
        """The steps from the meant heads to the rung ones."""
        return self._faults

    @property
    def unslipped(self):
        """The touch without slips."""
        return Touch(self.method, self.calling)

    def names_at(self, number):
        """The row by which the meant head with this number is renamed to the rung one."""
        if not is_within(number, 0, len(self.calling)):
            raise NoSpot(number)
        return self._names[number]

    def __len__(self):
        return len(self._rows)

    def __iter__(self):
        return iter(self._rows)

    def __getitem__(self, at):
        if not is_within(at, 0, len(self._rows) - 1):
            raise NoSpot(at)
        return self._rows[at]

    def __eq__(self, other):
        return (isinstance(other, Ringing) and self.method == other.method
                and self.calling == other.calling and self.slips == other.slips)


def rung_with_slips(method, calling, slips):
    """The rung heads, with the end, and the rows rung."""
    row = rounds_of(method.stage)
    heads = []
    rows = []
    for number, letter in enumerate(calling):
        told = [slip for slip in slips if slip[1] == number]
        row = swapped(row, told)
        heads.append(row)
        for change in lead_done(method, letter, told):
            rows.append(row)
            row = compose(row, change_move(change, method.stage))
    return (*heads, row), tuple(rows)


def swapped(row, told):
    """The row behind the swaps among these slips."""
    for word, _, *rest in told:
        if word == "swapped":
            row = exchange(row, rest[0], rest[1])
    return row


def lead_done(method, letter, told):
    """The changes that are done in a lead of the letter with these slips."""
    rung = letter
    crossed = {}
    for word, _, *rest in told:
        if word == "mistaken":
            rung = rest[0]
        elif word == "crossed":
            crossed[rest[0]] = rest[1]
    return [crossed.get(spot, change) for spot, change in enumerate(method.lead(rung))]


def judge_slips(method, calling, slips):
    """Raises the error that is due if these are no slips for the calling."""
    if not is_tuple(slips):
        raise BadSlip(-1)
    least = 0
    seen = {}
    for number, slip in enumerate(slips):
        if not is_slip(slip, method, calling) or slip[1] < least:
            raise BadSlip(number)
        mark = once_told(slip)
        if mark is not None and mark in seen:
            raise BadSlip(number)
        seen[mark] = True
        least = slip[1]
    if len(slips) > MOST_SLIPS:
        raise TooMany("slip")


def is_slip(thing, method, calling):
    """Whether it has the form of a slip for the calling in itself."""
    if not is_tuple_of(thing, 3, 4) or not is_within(thing[1], 0, len(calling) - 1):
        return False
    word, lead, *rest = thing
    if len(rest) == 1:
        return word == "mistaken" and rest[0] in method and rest[0] != calling[lead]
    if word == "crossed":
        return is_within(rest[0], 0, method.size - 1) and is_change(rest[1], method.stage)
    return word == "swapped" and is_exchange(rest, method.stage)


def once_told(slip):
    """What of this slip can be told only once, None if it can be told again and again."""
    if slip[0] == "mistaken":
        return (slip[1],)
    return (slip[1], slip[2]) if slip[0] == "crossed" else None
