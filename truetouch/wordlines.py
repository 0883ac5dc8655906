"""How lines are read word by word, in all languages that are written as lines."""

from truetouch.calltext import read_calling
from truetouch.errors import BadLine, BadText, TooLong
from truetouch.forms import DIGITS, GREATEST_STAGE, is_letter, is_name, number_told
from truetouch.leadtext import read_lead

EMPTY_CALLING = "-"
# What stands in a journal ends with a line of this word; by itself it ends with the lines.
CLOSING = "end"


class LineReader:
    """Goes through lines, and tells the word that cannot stand where it stands."""

    def __init__(self, lines):
        self.lines = lines
        self.number = -1
        self.words = ()
        self.at = 0

    def has_more(self):
        """Whether there is a line behind the present one."""
        return self.number + 1 < len(self.lines)

    def begin(self, *firsts):
        """Goes to the next line, which begins with one of these words, and tells this word."""
        self.number += 1
        self.at = 0
        if self.number >= len(self.lines):
            raise BadLine(len(self.lines), 0)
        text = self.lines[self.number]
        if not isinstance(text, str):
            raise BadLine(self.number, 0)
        self.words = tuple(text.split(" "))
        if self.words[0] not in firsts:
            raise BadLine(self.number, 0)
        self.at = 1
        return self.words[0]

    def goes_on(self, first, is_closed):
        """Whether one more line comes, which begins with this word; if not, the lines have come to their end."""
        if not is_closed:
            return self.has_more() and self.begin(first) == first
        if self.begin(first, CLOSING) == first:
            return True
        self.finish()
        return False

    def has_word(self):
        """Whether the line has a word that has not been taken."""
        return self.at < len(self.words)

    def look(self):
        """The next word of the line, which is not passed by."""
        if not self.has_word():
            raise BadLine(self.number, len(self.words))
        return self.words[self.at]

    def taken(self, told):
        """Passes by the next word, which tells this thing; it is bad if it tells None."""
        if told is None:
            raise BadLine(self.number, self.at)
        self.at += 1
        return told

    def finish(self):
        """Ends the line."""
        if self.has_word():
            raise BadLine(self.number, self.at)

    def take_number(self, low, high):
        """Takes an integer within the bounds."""
        return self.taken(number_told(self.look(), low, high))

    def take_bell(self):
        """Takes a bell of any stage."""
        return self.take_number(1, GREATEST_STAGE)

    def take_count(self, most):
        """Takes an integer up to the most, or a name."""
        word = self.look()
        return self.taken(word if is_name(word) else number_told(word, 0, most))

    def take_name(self):
        """Takes a name."""
        word = self.look()
        return self.taken(word if is_name(word) else None)

    def take_letter(self, barred=""):
        """Takes a letter other than those barred."""
        letter = self.look()
        return self.taken(letter if is_letter(letter) and letter not in barred else None)

    def take_places(self):
        """Takes ascending digits that tell places."""
        return self.taken(places_told(self.look()))

    def take_lead(self, stage):
        """Takes a lead text of the stage."""
        word = self.look()
        try:
            lead = read_lead(stage, word)
        except (BadText, TooLong) as error:
            raise BadLine(self.number, self.at) from error
        return self.taken(lead)

    def take_calling(self):
        """Takes a calling text."""
        word = self.look()
        if word == EMPTY_CALLING:
            return self.taken("")
        # The empty text would stand for the empty calling, but an empty word stands for nothing.
        if word == "":
            raise BadLine(self.number, self.at)
        try:
            calling = read_calling(word)
        except (BadText, TooLong) as error:
            raise BadLine(self.number, self.at) from error
        return self.taken(calling)


def places_told(word):
    """The places that ascending digits tell, None if they tell none."""
    if word == "" or not all([digit in DIGITS for digit in word]):
        return None
    places = tuple([int(digit) for digit in word])
    before = 0
    for told in places:
        if not before < told <= GREATEST_STAGE:
            return None
        before = told
    return places


def write_places(places):
    """The digits of some places, one behind the other."""
    return "".join([str(told) for told in places])
