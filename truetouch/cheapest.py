"""The cheapest callings of a number of leads, and bounds below which none can be."""

from truetouch.charges import Charges
from truetouch.errors import BadMany
from truetouch.forms import is_integer, is_tuple_of, is_within
from truetouch.tables import first_wrong, rows_of

MOST_LEADS = 60


class Cheapest:
    """The least prices of callings of exactly so many letters that end at each head, and the cheapest rounds."""

    def __init__(self, prices, many):
        if not is_within(many, 0, MOST_LEADS):
            raise BadMany(many)
        charges = Charges(prices)
        self.prices = prices
        self.many = many
        start = [0] + [None for _ in charges.land.rows[1:]]
        bounds = [start]
        # What is left to rounds is reckoned backwards: from each head, by exactly so many leads.
        left = [start]
        for _ in range(many):
            bounds.append(one_lead_behind(charges, bounds[-1]))
            left.append(one_lead_ahead(charges, left[-1]))
        self.bounds = tuple([tuple(row) for row in bounds])
        self._cheapest_rounds = tuple([cheapest_round(charges, left, leads) for leads in range(many + 1)])

    def __getitem__(self, at):
        if not is_within(at, 0, self.many):
            raise BadMany(at)
        return self._cheapest_rounds[at]

    def __len__(self):
        return len(self.bounds)

    def __iter__(self):
        return iter(self.bounds)


def one_lead_behind(charges, bounds):
    """The least prices for one lead more, if these are those for the leads ahead of it."""
    found = [None for _ in bounds]
    for number, bound in enumerate(bounds):
        if bound is not None:
            for _, led, price in charges.leads_from(number):
                if found[led] is None or bound + price < found[led]:
                    found[led] = bound + price
    return found


def one_lead_ahead(charges, left):
    """The least prices of what is left to rounds from each head, if these are those behind the next lead."""
    found = []
    for number in range(len(left)):
        worths = [left[led] + price for _, led, price in charges.leads_from(number) if left[led] is not None]
        found.append(min(worths) if worths else None)
    return found


def cheapest_round(charges, left, leads):
    """The least price of so many leads that end at rounds, and the least calling that has it; None if none end so."""
    if left[leads][0] is None:
        return None
    number = 0
    calling = ""
    for rest in range(leads - 1, -1, -1):
        # None is left where rounds cannot be come to by exactly so many leads.
        letter, number = [(letter, led) for letter, led, price in charges.leads_from(number)
                          if left[rest][led] is not None and left[rest][led] + price == left[rest + 1][number]][0]
        calling = calling + letter
    return (left[leads][0], calling)


def judge_bounds(prices, table):
    """Judges a table of bounds."""
    charges = Charges(prices)
    heads = len(charges.land.rows)
    rows = [row if are_bounds(row, heads) else None for row in rows_of(table)]
    if not rows or rows[0] is None or rows[0][0] is None or rows[0][0] > 0:
        return -1
    last = len(rows) - 1
    return first_wrong([row is not None and (at == last or fits_next(charges, row, rows[at + 1]))
                        for at, row in enumerate(rows)])


def are_bounds(thing, heads):
    """Whether it is a tuple of an integer or None for each head."""
    return is_tuple_of(thing, heads, heads) and all([bound is None or is_integer(bound) for bound in thing])


def fits_next(charges, row, onward):
    """Whether all bounds of the row fit those of the next one, which is None if it does not have its form."""
    for number, bound in enumerate(row):
        if bound is not None:
            if onward is None:
                return False
            for _, led, price in charges.leads_from(number):
                if onward[led] is None or onward[led] > bound + price:
                    return False
    return True
