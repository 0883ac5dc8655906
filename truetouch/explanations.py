"""The explanations of what was heard that have the fewest slips, how many they are, and what they share."""

from truetouch.moves import compose, exchange, rounds_of
from truetouch.patterns import fits_pattern

NO_SWAP = ()


class Explanations:
    """For each head and row the fewest slips with which the rest can have been rung, and in how many ways.

    The rows are those ahead of the swap that can come at this head; what is told for the rung heads is
    told behind it.
    """

    def __init__(self, method, calling, heard, swaps):
        self.calling = calling
        self.moves = [(letter, method.head(letter)) for letter in method.letters]
        self.start = rounds_of(method.stage)
        self.exchanges_let = pairs_of(self.start) if swaps else []
        self.swapped_from = {}
        self.led_from = {}
        reached, rung = self.rows_that_fit(heard)
        self.ahead = [{row: (0, 1) for row in reached[-1] if fits_pattern(row, heard[-1])}]
        self.behind_swap = []
        for number in range(len(calling) - 1, -1, -1):
            leads = {row: self.led_rows(row) for row in rung[number]}
            self.behind_swap.append(fewest_slips(leads, calling[number], self.ahead[-1]))
            exchanges = {row: self.swapped_rows(row) for row in reached[number]}
            self.ahead.append(fewest_slips(exchanges, NO_SWAP, self.behind_swap[-1]))
        self.ahead = self.ahead[::-1]
        self.behind_swap = self.behind_swap[::-1]

    def swapped_rows(self, row):
        """The rows to which the swaps that are let bring this one, with these swaps; at first it stays itself."""
        if row not in self.swapped_from:
            told = [(pair, exchange(row, pair[0], pair[1])) for pair in self.exchanges_let]
            self.swapped_from[row] = [(NO_SWAP, row)] + told
        return self.swapped_from[row]

    def led_rows(self, row):
        """The rows to which the leads of all letters bring this one, with these letters."""
        if row not in self.led_from:
            self.led_from[row] = [(letter, compose(row, move)) for letter, move in self.moves]
        return self.led_from[row]

    def rows_that_fit(self, heard):
        """For each head the rows that can come there, and for each lead the rung heads that fit what was heard."""
        reached = [[self.start]]
        rung = []
        for pattern in heard[:-1]:
            swapped = list({led: True for row in reached[-1] for _, led in self.swapped_rows(row)})
            rung.append([row for row in swapped if fits_pattern(row, pattern)])
            reached.append(list({led: True for row in rung[-1] for _, led in self.led_rows(row)}))
        return reached, rung

    def choices(self, number, row):
        """The pairs of a letter and a swap by which the fewest slips go on from this head, with the row behind."""
        fewest = self.ahead[number][row][0]
        onward = self.behind_swap[number]
        found = []
        for swap, rung in self.swapped_rows(row):
            if rung in onward and onward[rung][0] + slips_of(swap != NO_SWAP) == fewest:
                for letter, led in self.led_rows(rung):
                    slips = onward[rung][0] - slips_of(letter != self.calling[number])
                    if led in self.ahead[number + 1] and self.ahead[number + 1][led][0] == slips:
                        found.append(((letter, swap), led))
        return found

    def first_told(self):
        """The first of the explanations with the fewest slips."""
        row = self.start
        told = ()
        for number in range(len(self.calling)):
            pair, row = min(self.choices(number, row))
            told = told + (pair,)
        return told

    def sure_told(self):
        """For each lead the pair that all explanations with the fewest slips have there, None if there is none."""
        rows = [self.start]
        told = []
        for number in range(len(self.calling)):
            found = [choice for row in rows for choice in self.choices(number, row)]
            pairs = list({pair: True for pair, _ in found})
            told.append(pairs[0] if len(pairs) == 1 else None)
            rows = list({row: True for _, row in found})
        return tuple(told)


def pairs_of(bells):
    """The pairs of two of these bells, ascending."""
    return [(bell, other) for bell in bells for other in bells if bell < other]


def slips_of(is_slip):
    """How many slips there are in what is one or none."""
    return 1 if is_slip else 0


def fewest_slips(ways, plain, onward):
    """For each row the fewest slips with which the rest can have been rung, and in how many ways.

    The ways from each row are pairs of what is rung and the row behind it; the plain one is no slip.
    """
    found = {}
    for row, told in ways.items():
        totals = [(onward[led][0] + slips_of(rung != plain), onward[led][1]) for rung, led in told if led in onward]
        if totals:
            fewest = min([slips for slips, _ in totals])
            found[row] = (fewest, sum([many for slips, many in totals if slips == fewest]))
    return found
