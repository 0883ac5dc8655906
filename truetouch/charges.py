"""The prices of all leads from all heads of a method."""

from truetouch.headnumbers import HeadNumbers
from truetouch.moves import compose


class Charges:
    """The heads of the method of some prices by their numbers, and the price of each lead from each of them."""

    def __init__(self, prices):
        method = prices.method
        self.land = HeadNumbers(method)
        self.row_prices = {}
        self.of_leads = {letter: self.prices_from_heads(prices, letter) for letter in method.letters}

    def prices_from_heads(self, prices, letter):
        """The price of the lead of the letter from each head, in order."""
        found = []
        for head in self.land.rows:
            total = prices.fee(letter)
            for rung in prices.method.body(letter):
                row = compose(head, rung)
                # Most rows are rung in several leads.
                if row not in self.row_prices:
                    self.row_prices[row] = prices.row_price(row)
                total = total + self.row_prices[row]
            found.append(total)
        return found

    def leads_from(self, number):
        """For each letter, in order, the head behind its lead from the head with this number, and the price."""
        return [(letter, self.land.onward[letter][number], self.of_leads[letter][number])
                for letter in self.land.method.letters]
