"""Lead texts: how they are read, and the plain ones."""

from truetouch.changes import is_change, write_change
from truetouch.errors import BadStage, BadText, TooLong
from truetouch.forms import is_stage
from truetouch.methods import MOST_CHANGES
from truetouch.textreader import TextReader


def write_lead(lead):
    """The plain text of a lead."""
    return ".".join([write_change(change) for change in lead])


def read_lead(stage, text):
    """The lead for which a lead text stands."""
    if not is_stage(stage):
        raise BadStage(stage)
    reader = LeadReader(stage, text)
    number, lead = reader.pieces("")
    if number > MOST_CHANGES:
        raise TooLong(number)
    return lead


class LeadReader(TextReader):
    """Reads lead texts as pairs of a number of changes and these, which are left out if too many."""

    def __init__(self, stage, text):
        super().__init__(text)
        self.stage = stage

    def pieces(self, closing):
        """Reads pieces up to the closing bracket, or to the end of the text if there is none."""
        number = 0
        lead = ()
        while True:
            many, part = self.piece()
            number = number + many
            lead = lead + part if number <= MOST_CHANGES else ()
            if self.sign() == closing:
                return number, lead
            if self.sign() != ".":
                raise BadText(self.at)
            self.at += 1

    def piece(self):
        """Reads one piece."""
        if self.sign() == "<":
            return self.mirrored()
        if self.sign() == "x":
            return self.one_change((), 1)
        digits = self.digits()
        if digits == "":
            raise BadText(self.at)
        if self.text[self.at + len(digits):self.at + len(digits) + 1] == "(":
            return self.repeated()
        return self.one_change(tuple([int(digit) for digit in digits]), len(digits))

    def one_change(self, told, width):
        """Reads the text of one change, which has this width."""
        if not is_change(told, self.stage):
            raise BadText(self.at)
        self.at += width
        return 1, (told,)

    def repeated(self):
        """Reads a number and the bracket behind it."""
        times = self.take_number(2, MOST_CHANGES)
        self.go_in()
        number, lead = self.pieces(")")
        self.go_out()
        return times * number, lead * times

    def mirrored(self):
        """Reads a bracket whose changes come once more in reverse order, without the last one."""
        self.go_in()
        number, lead = self.pieces(">")
        self.go_out()
        return 2 * number - 1, lead + lead[::-1][1:]
