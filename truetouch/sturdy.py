"""Sturdy callings, which bring the bells to rounds whatever the band mishears."""

from truetouch.bands import Band
from truetouch.callings import judge_calling
from truetouch.headnumbers import HeadNumbers


def spoiler(band, calling):
    """The first string with the fewest misheard letters that never brings the bells to rounds; None without one."""
    judge_calling(calling, band.method)
    search = SpoilerSearch(band, calling)
    fewest = search.fewest_ahead[0][0]
    if fewest is None or (band.most is not None and fewest > band.most):
        return None
    return search.first_string()


def calling_bears(method, hears, calling):
    """The greatest number of misheard leads for which the calling is sturdy, -1 if it is so for none."""
    band = Band(method, hears, None)
    judge_calling(calling, method)
    fewest = SpoilerSearch(band, calling).fewest_ahead[0][0]
    return len(calling) if fewest is None else fewest - 1


class SpoilerSearch:
    """For each lead and head the fewest letters misheard from there on without the bells being round at a next head.

    It is None where they are round at one of them, whatever is misheard. The number of misheard letters is
    not bounded here.
    """

    def __init__(self, band, calling):
        self.band = band
        self.calling = calling
        self.land = HeadNumbers(band.method)
        self.fewest_ahead = [[0 for _ in self.land.rows]]
        for letter in calling[::-1]:
            self.fewest_ahead.append(self.one_lead_more(letter, self.fewest_ahead[-1]))
        self.fewest_ahead = self.fewest_ahead[::-1]

    def one_lead_more(self, called, behind):
        """The fewest letters from each head, if those behind this lead are known."""
        found = [None for _ in behind]
        for rung in self.band.rings(called):
            misheard = 1 if rung != called else 0
            for number, led in enumerate(self.land.onward[rung]):
                # The first of the heads is rounds.
                if led != 0 and behind[led] is not None:
                    fewest = behind[led] + misheard
                    if found[number] is None or fewest < found[number]:
                        found[number] = fewest
        return found

    def first_string(self):
        """The first of the strings with the fewest misheard letters."""
        number = 0
        told = ""
        for at, called in enumerate(self.calling):
            rung = self.first_rung(at, called, number)
            told = told + rung
            number = self.land.onward[rung][number]
        return told

    def first_rung(self, at, called, number):
        """The first letter by which the fewest letters are misheard from this head on."""
        for rung in self.band.rings(called):
            led = self.land.onward[rung][number]
            behind = self.fewest_ahead[at + 1][led]
            misheard = 1 if rung != called else 0
            if led != 0 and behind is not None and behind + misheard == self.fewest_ahead[at][number]:
                return rung
        return None
