"""What lead texts and calling texts have in common when they are read."""

from truetouch.errors import BadText
from truetouch.forms import DIGITS, number_told

MOST_BRACKETS = 6


class TextReader:
    """Goes through a text, and tells the character that cannot stand where it stands."""

    def __init__(self, text):
        if not isinstance(text, str):
            raise BadText(-1)
        self.text = text
        self.at = 0
        self.depth = 0

    def sign(self):
        """The character that is looked at, the empty string at the end of the text."""
        return self.text[self.at:self.at + 1]

    def digits(self):
        """The run of digits that begins here, as long as possible; it is not passed by."""
        stop = self.at
        while stop < len(self.text) and self.text[stop] in DIGITS:
            stop += 1
        return self.text[self.at:stop]

    def take_number(self, low, high):
        """Passes by a number, which is judged as a whole."""
        digits = self.digits()
        number = number_told(digits, low, high)
        if number is None:
            raise BadText(self.at)
        self.at += len(digits)
        return number

    def go_in(self):
        """Passes by an opening bracket."""
        if self.depth == MOST_BRACKETS:
            raise BadText(self.at)
        self.depth += 1
        self.at += 1

    def go_out(self):
        """Passes by a closing bracket."""
        self.depth -= 1
        self.at += 1
