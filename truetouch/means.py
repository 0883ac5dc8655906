"""The least mean price of a lead in the long run."""

from math import gcd

from truetouch.charges import Charges
from truetouch.errors import Unreached
from truetouch.forms import is_integer, is_tuple_of
from truetouch.rows import is_row

# Greater than what any walk can cost that is reckoned with here; it stands for a head that no walk comes to.
FAR = 1000000000000000


class Mean:
    """The least mean, the cycle that has it, and the potentials of the heads."""

    def __init__(self, prices):
        charges = Charges(prices)
        levels = walk_prices(charges)
        self.prices = prices
        self.mean = least_mean(levels)
        self.potentials = potentials_of(levels, self.mean)
        self.cycle = shortest_cycle(charges, self.mean, self.potentials)
        self._numbers = charges.land.numbers

    def bound(self, head, leads):
        """The least integer that the potentials let be the price of a calling of so many leads to this head."""
        if not is_row(head, self.prices.method.stage) or tuple(head) not in self._numbers:
            raise Unreached(head)
        above, below = self.mean
        least = above * leads + self.potentials[self._numbers[tuple(head)]] - self.potentials[0]
        # Rounded up.
        return -(-least // below)


def judge_potentials(prices, mean, potentials):
    """Judges potentials for a mean."""
    charges = Charges(prices)
    many = len(charges.land.rows)
    if not is_tuple_of(potentials, many, many) or not all([is_integer(told) for told in potentials]):
        return -1
    for number in range(many):
        if not all([slack >= 0 for _, _, slack in slacks(charges, mean, potentials, number)]):
            return number
    return None


def slacks(charges, mean, potentials, number):
    """For each lead from a head its letter, the head behind it, and by how much its price is above what must be."""
    above, below = mean
    return [(letter, led, potentials[number] + below * price - above - potentials[led])
            for letter, led, price in charges.leads_from(number)]


def walk_prices(charges):
    """For each number of leads up to that of the heads, the least prices of callings that end at each head."""
    many = len(charges.land.rows)
    ways = [[] for _ in range(many)]
    for number in range(many):
        for _, led, price in charges.leads_from(number):
            ways[led].append((number, price))
    levels = [[0] + [FAR for _ in range(many - 1)]]
    for _ in range(many):
        before = levels[-1]
        levels.append([min([before[number] + price for number, price in into]) for into in ways])
    return levels


def is_near(worth):
    """Whether this is what a walk costs; the prices of leads are small against those of heads far away."""
    return worth < FAR // 2


def least_mean(levels):
    """The least mean of all cycles, by what walks of so many leads as there are heads cost more than shorter ones.

    Such a walk goes round a cycle, and the part of it that is left out in a shorter walk is dearer in the
    mean than the cheapest cycle; Karp has shown that for some head it is not.
    """
    best = None
    longest = levels[-1]
    for number, worth in enumerate(longest):
        if is_near(worth):
            dearest = dearest_rest(levels, number)
            if best is None or is_less(dearest, best):
                best = dearest
    divisor = gcd(best[0], best[1])
    return (best[0] // divisor, best[1] // divisor)


def dearest_rest(levels, number):
    """The greatest mean, over all shorter walks to a head, by which the longest one costs more than these."""
    many = len(levels) - 1
    found = None
    for leads in range(many):
        if is_near(levels[leads][number]):
            rest = (levels[many][number] - levels[leads][number], many - leads)
            if found is None or is_less(found, rest):
                found = rest
    return found


def is_less(mean, other):
    """Whether the one mean is less than the other."""
    return mean[0] * other[1] < other[0] * mean[1]


def potentials_of(levels, mean):
    """The potentials of the heads, in order."""
    above, below = mean
    # No cycle makes a walk cheaper than the mean, so none with more leads than heads is needed.
    return tuple([min([below * level[number] - above * leads for leads, level in enumerate(levels)
                       if is_near(level[number])]) for number in range(len(levels[0]))])


def shortest_cycle(charges, mean, potentials):
    """The head and the calling of the first shortest cycle that has the mean."""
    rows = charges.land.rows
    # A cycle has the mean exactly if none of its leads is dearer than the potentials let it be.
    tight = [[(letter, led) for letter, led, slack in slacks(charges, mean, potentials, number) if slack == 0]
             for number in range(len(rows))]
    best = None
    head = None
    for number in range(len(rows)):
        calling = least_return(tight, number, len(rows) if best is None else len(best) - 1)
        if calling is not None:
            best = calling
            head = rows[number]
    return (head, best)


def least_return(tight, start, most):
    """The least calling of at most so many letters that leads back to the start, None if there is none."""
    callings = {start: ""}
    waiting = [start]
    at = 0
    while at < len(waiting) and len(callings[waiting[at]]) < most:
        present = waiting[at]
        for letter, led in tight[present]:
            if led == start:
                return callings[present] + letter
            if led not in callings:
                callings[led] = callings[present] + letter
                waiting.append(led)
        at += 1
    return None
