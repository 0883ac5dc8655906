"""Mends in time: a fault is made rounds while the meant touch goes on."""

from truetouch.callings import judge_calling
from truetouch.errors import BadRow, NoMend
from truetouch.forms import is_integer, is_tuple_of
from truetouch.gamevalues import NO_VALUE, values_of
from truetouch.headnumbers import HeadNumbers
from truetouch.methods import judge_letter
from truetouch.moves import compose, inverse
from truetouch.rows import is_row
from truetouch.tables import first_ranks, first_wrong, rows_of


class InTime:
    """For each head the number of leads within which the conductor surely makes this fault rounds."""

    def __init__(self, method):
        land = HeadNumbers(method)
        self.method = method
        self._numbers = land.numbers
        self._becomes = faults_behind(land)
        groups = [[sorted(set(behind)) for behind in told] for told in self._becomes]
        self._values = values_of(groups, [0], True)
        self.table = tuple(zip(land.rows, self._values))
        self._trap = tuple([row for row, value in self.table if value == NO_VALUE])

    @property
    def trap(self):
        """The heads without a value, in order."""
        return self._trap

    def value(self, fault):
        """The value of a head, -1 if it has none."""
        return self._values[self.number_of(fault)]

    def answer(self, fault, letter):
        """The first letter that leads to the least value when this letter is called."""
        number = self.number_of(fault)
        judge_letter(self.method, letter)
        # No value is greater than there are heads.
        behind = [self._values[led] for led in self._becomes[number][self.method.letters.index(letter)]]
        worths = [len(self._values) if value == NO_VALUE else value for value in behind]
        return self.method.letters[worths.index(min(worths))]

    def spoiler(self, fault):
        """The first letter that keeps the fault in the trap whatever is rung, None if the fault has a value."""
        number = self.number_of(fault)
        for letter, behind in zip(self.method.letters, self._becomes[number]):
            if self._values[number] == NO_VALUE and all([self._values[led] == NO_VALUE for led in behind]):
                return letter
        return None

    def number_of(self, fault):
        """The number of a head."""
        if not is_row(fault, self.method.stage) or tuple(fault) not in self._numbers:
            raise NoMend(fault)
        return self._numbers[tuple(fault)]

    def __len__(self):
        return len(self.table)

    def __iter__(self):
        return iter(self.table)


def faults_behind(land):
    """For each head, and each letter called, what it becomes by the letters rung, in the order of the letters."""
    letters = land.method.letters
    undone = [inverse(land.method.head(letter)) for letter in letters]
    told = []
    for row in land.rows:
        waiting = [land.numbers[compose(move, row)] for move in undone]
        told.append([[land.onward[letter][number] for letter in letters] for number in waiting])
    return told


def judge_intime(method, table):
    """Judges a table of values."""
    land = HeadNumbers(method)
    rows = [valued_head(row, land) for row in rows_of(table)]
    values = first_ranks(rows)
    if len(values) < len(land.rows):
        return -1
    becomes = faults_behind(land)
    return first_wrong([row is not None and row[1] == value_due(row[0], becomes[row[0]], values) for row in rows])


def valued_head(thing, land):
    """The number of the head and the value that a row of a table tells, None if it does not have this form."""
    if not is_tuple_of(thing, 2, 2) or not is_row(thing[0], land.method.stage):
        return None
    if tuple(thing[0]) not in land.numbers or not is_integer(thing[1]) or thing[1] < NO_VALUE:
        return None
    return (land.numbers[tuple(thing[0])], thing[1])


def value_due(number, becomes, values):
    """The value of the head with this number, by the values of what it becomes."""
    if number == 0:
        return 0
    greatest = 0
    for behind in becomes:
        told = [values[led] for led in behind if values[led] != NO_VALUE]
        if not told:
            return NO_VALUE
        greatest = max(greatest, min(told))
    return greatest + 1


def mend_in_time(method, calling, fault):
    """The fewest leads that mend the fault while the calling goes on, and the least calling that does; or None."""
    judge_calling(calling, method)
    if not is_row(fault, method.stage):
        raise BadRow(fault)
    land = HeadNumbers(method)
    # The fault is rounds as soon as what is rung from it has come to what is called from rounds.
    meant = 0
    answers = {land.numbers[tuple(fault)]: ""} if tuple(fault) in land.numbers else {}
    for letter in calling:
        if meant in answers:
            break
        meant = land.onward[letter][meant]
        answers = longer_answers(land, answers)
    return (len(answers[meant]), answers[meant]) if meant in answers else None


def longer_answers(land, answers):
    """For each head to which one more lead leads the least answer, when answers of one length ascend."""
    longer = {}
    for number, answer in answers.items():
        for letter in land.method.letters:
            led = land.onward[letter][number]
            if led not in longer:
                longer[led] = answer + letter
    return longer
