"""Prices of rows, leads and touches."""

from truetouch.errors import BadFee, BadRow, BadRule, TooMany
from truetouch.forms import as_tuples, is_tuple, is_tuple_of, is_within
from truetouch.methods import judge_letter
from truetouch.moves import compose
from truetouch.patterns import fits_pattern, is_pattern
from truetouch.rows import is_row
from truetouch.touches import Touch

MOST_RULES = 12
GREATEST_PRICE = 100


class Prices:
    """What rows cost by rules, and letters by fees."""

    def __init__(self, method, rules, fees=()):
        judge_rules(method, rules)
        judge_fees(method, fees)
        self.method = method
        self.rules = as_tuples(rules)
        self.fees = as_tuples(fees)
        self._fees = {letter: 0 for letter in method.letters}
        for letter, price in self.fees:
            self._fees[letter] = price

    def of_row(self, row):
        """The price of a row."""
        if not is_row(row, self.method.stage):
            raise BadRow(row)
        return self.row_price(row)

    def of_lead(self, row, letter):
        """The price of the lead of the letter, rung from the row."""
        if not is_row(row, self.method.stage):
            raise BadRow(row)
        judge_letter(self.method, letter)
        return self._fees[letter] + sum([self.row_price(compose(row, rung)) for rung in self.method.body(letter)])

    def of_touch(self, calling, start=None):
        """The price of the touch of a calling from a start, which is rounds unless told."""
        touch = Touch(self.method, calling, start)
        return sum([self._fees[letter] for letter in calling]) + sum([self.row_price(row) for row in touch])

    def fee(self, letter):
        """The fee of a letter."""
        return self._fees[letter]

    def row_price(self, row):
        """The price of a row that has been judged."""
        return sum([price for pattern, price in self.rules if fits_pattern(row, pattern)])

    def __eq__(self, other):
        return (isinstance(other, Prices) and self.method == other.method
                and self.rules == other.rules and self.fees == other.fees)


def judge_rules(method, rules):
    """Raises the error that is due if these are no rules over the method."""
    if not is_tuple(rules):
        raise BadRule(-1)
    for number, rule in enumerate(rules):
        if not is_tuple_of(rule, 2, 2) or not is_pattern(rule[0], method.stage) or not is_price(rule[1]):
            raise BadRule(number)
    if len(rules) > MOST_RULES:
        raise TooMany("rule")


def judge_fees(method, fees):
    """Raises the error that is due if these are no fees of different letters of the method."""
    if not is_tuple(fees):
        raise BadFee(-1)
    seen = {}
    for number, fee in enumerate(fees):
        if not is_tuple_of(fee, 2, 2) or fee[0] not in method or fee[0] in seen or not is_price(fee[1]):
            raise BadFee(number)
        seen[fee[0]] = True


def is_price(thing):
    """Whether it is a price that a rule or a fee can tell."""
    return is_within(thing, -GREATEST_PRICE, GREATEST_PRICE)
