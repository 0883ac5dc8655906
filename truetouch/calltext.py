"""Calling texts: how they are read, and the folded ones."""

from truetouch.callings import MOST_LETTERS
from truetouch.errors import BadCalling, BadText, TooLong
from truetouch.folding import folded, repeats
from truetouch.forms import is_letter
from truetouch.textreader import TextReader

MOST_TIMES = 99
MOST_FOLDED = 40


def read_calling(text):
    """The calling for which a calling text stands."""
    reader = CallReader(text)
    number, calling = (0, "") if reader.sign() == "" else reader.all_items("")
    if number > MOST_LETTERS:
        raise TooLong(number)
    return calling


def fold_calling(calling):
    """The shortest calling text that stands for the calling; of several, the first one as a string."""
    if not isinstance(calling, str):
        raise BadCalling(-1)
    for number, letter in enumerate(calling):
        if not is_letter(letter):
            raise BadCalling(number)
    if len(calling) > MOST_FOLDED:
        raise TooLong(len(calling))
    if calling == "":
        return ""
    return folded(calling, "", call_pieces)


def call_pieces(words, best, start, stop):
    """The texts of one item that stand for the letters from start to stop."""
    if stop - start == 1:
        return [words[start]]
    told = []
    for times, part in repeats(words, start, stop):
        if part == 1:
            told.append(f"{times}{words[start]}")
        else:
            told.append(f"{times}({best[start, start + part]})")
    return told


class CallReader(TextReader):
    """Reads calling texts as pairs of a number of letters and these, which are left out if too many."""

    def all_items(self, closing):
        """Reads items up to the closing bracket, or to the end of the text if there is none."""
        number = 0
        calling = ""
        while True:
            many, part = self.one_item()
            number = number + many
            calling = calling + part if number <= MOST_LETTERS else ""
            if self.sign() == closing:
                return number, calling

    def one_item(self):
        """Reads one item."""
        times = 1
        if self.digits() != "":
            times = self.take_number(2, MOST_TIMES)
            if self.sign() == "(":
                self.go_in()
                number, calling = self.all_items(")")
                self.go_out()
                return times * number, calling * times
        letter = self.sign()
        if not is_letter(letter):
            raise BadText(self.at)
        self.at += 1
        return times, letter * times
