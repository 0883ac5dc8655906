"""Methods: a plain lead, and calls that change some of its changes."""

from truetouch.changes import change_move, is_change
from truetouch.errors import BadCall, BadLead, BadLetter, BadStage, TooMany, Twice
from truetouch.forms import as_tuples, is_letter, is_stage, is_tuple, is_tuple_of, is_within
from truetouch.moves import compose, rounds_of

MOST_CHANGES = 32
MOST_CALLS = 5
PLAIN_LETTER = "p"


class Method:
    """A method, with its leads, and the rows through which these lead from rounds."""

    PLAIN = "p"

    def __init__(self, stage, plain, calls=()):
        judge_plain(stage, plain)
        judge_calls(stage, len(plain), calls)
        self.stage = stage
        self.plain = as_tuples(plain)
        self.calls = as_tuples(calls)
        leads = leads_told(self.plain, self.calls)
        self._letters = "".join(sorted(leads))
        self._leads = leads
        self._ways = {letter: rows_of_lead(leads[letter], stage) for letter in leads}

    @property
    def letters(self):
        """The letters of the method, ascending, as one string."""
        return self._letters

    @property
    def size(self):
        """How many changes each lead has."""
        return len(self.plain)

    def lead(self, letter):
        """The changes of the lead of this letter."""
        judge_letter(self, letter)
        return self._leads[letter]

    def head(self, letter):
        """The row to which rounds is moved by the lead of this letter."""
        judge_letter(self, letter)
        return self._ways[letter][-1]

    def body(self, letter):
        """The rows that the lead of this letter rings from rounds."""
        judge_letter(self, letter)
        return self._ways[letter][:-1]

    def __contains__(self, x):
        return isinstance(x, str) and x in self._leads

    def __len__(self):
        return len(self._letters)

    def __iter__(self):
        return iter(self._letters)

    def __eq__(self, other):
        return (isinstance(other, Method) and self.stage == other.stage
                and self.plain == other.plain and self.calls == other.calls)

    def __add__(self, other):
        return Method(self.stage, self.plain, self.calls + (other,))


def leads_told(plain, calls):
    """For each letter the changes of its lead."""
    leads = {PLAIN_LETTER: plain}
    for letter, at, told in calls:
        leads[letter] = plain[:at] + told + plain[at + len(told):]
    return leads


def rows_of_lead(lead, stage):
    """The rows through which the changes lead from rounds, with the last one."""
    rows = [rounds_of(stage)]
    for change in lead:
        rows.append(compose(rows[-1], change_move(change, stage)))
    return tuple(rows)


def judge_plain(stage, plain):
    """Raises the error that is due if the stage or the plain lead is none."""
    if not is_stage(stage):
        raise BadStage(stage)
    if not is_tuple_of(plain, 1, MOST_CHANGES):
        raise BadLead(-1)
    for number, change in enumerate(plain):
        if not is_change(change, stage):
            raise BadLead(number)


def judge_calls(stage, size, calls):
    """Raises the error that is due if these are no calls for a plain lead of this size."""
    if not is_tuple(calls):
        raise BadCall(-1)
    for number, call in enumerate(calls):
        if not is_call(call, stage, size):
            raise BadCall(number)
    if len(calls) > MOST_CALLS:
        raise TooMany("call")
    seen = {}
    for call in calls:
        if call[0] in seen:
            raise Twice(call[0])
        seen[call[0]] = True


def is_call(thing, stage, size):
    """Whether it is a call for a plain lead of this size."""
    if not is_tuple_of(thing, 3, 3):
        return False
    letter, at, told = thing
    if not is_letter(letter) or letter == PLAIN_LETTER or not is_tuple_of(told, 1, size):
        return False
    if not is_within(at, 0, size - len(told)):
        return False
    return all([is_change(change, stage) for change in told])


def judge_letter(method, letter):
    """Raises the error that is due if this is no letter of the method."""
    if letter not in method:
        raise BadLetter(letter)
