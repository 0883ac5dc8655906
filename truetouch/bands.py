"""Bands that mishear: which leads they can ring when a letter is called."""

from truetouch.errors import BadHears, BadMost, TooMany
from truetouch.forms import as_tuples, is_tuple, is_tuple_of, is_within
from truetouch.heads import Heads
from truetouch.methods import judge_letter
from truetouch.moves import compose
from truetouch.rows import is_row

GREATEST_MOST = 4
MOST_NODES = 1000


class Band:
    """A band over a method: as what it can mishear each letter, and how many leads in all."""

    def __init__(self, method, hears, most):
        judge_hears(method, hears)
        if most is not None and not is_within(most, 0, GREATEST_MOST):
            raise BadMost(most)
        self.method = method
        self.hears = as_tuples(hears)
        self.most = most
        self._rings = rings_told(method, self.hears)

    def rings(self, letter):
        """The letters whose lead the band can ring when this letter is called, ascending."""
        judge_letter(self.method, letter)
        return self._rings[letter]

    def nodes(self):
        """The pairs of a head and a number of leads misheard, in order."""
        heads = list(Heads(self.method))
        found = [(head, made) for head in heads for made in range(greatest_made(self.most) + 1)]
        if len(found) > MOST_NODES:
            raise TooMany("node")
        return tuple(found)

    def behind(self, node, letter):
        """The pairs of a letter that the band can ring for this one at the node, and the node behind, ascending."""
        judge_letter(self.method, letter)
        row, already = node
        can_mishear = self.most is None or already < self.most
        found = []
        for rung in self._rings[letter] if can_mishear else letter:
            is_counted = rung != letter and self.most is not None
            found.append((rung, (compose(row, self.method.head(rung)), already + 1 if is_counted else already)))
        return tuple(found)

    def __eq__(self, other):
        return (isinstance(other, Band) and self.method == other.method
                and self.hears == other.hears and self.most == other.most)


def greatest_made(most):
    """The greatest number of leads misheard that is counted, when so many can be, or any number for None."""
    return 0 if most is None else most


def is_node(thing, band):
    """Whether it is a pair of a row of the stage, of whatever kind, and a number of leads that were misheard."""
    if not is_tuple_of(thing, 2, 2) or not is_row(thing[0], band.method.stage):
        return False
    return is_within(thing[1], 0, greatest_made(band.most))


def rings_told(method, hears):
    """For each letter of the method the letters that can be rung when it is called, itself among them, ascending."""
    told = {letter: letter for letter in method.letters}
    for letter, others in hears:
        told[letter] = "".join(sorted(letter + others))
    return told


def judge_hears(method, hears):
    """Raises the error that is due if these do not tell as what the letters of the method can be misheard."""
    if not is_tuple(hears):
        raise BadHears(-1)
    seen = {}
    for number, pair in enumerate(hears):
        if not is_tuple_of(pair, 2, 2) or pair[0] not in method or pair[0] in seen:
            raise BadHears(number)
        if not are_other_letters(pair[1], pair[0], method):
            raise BadHears(number)
        seen[pair[0]] = True


def are_other_letters(thing, letter, method):
    """Whether it is an ascending string of at least one letter of the method other than this one."""
    if not isinstance(thing, str) or thing == "" or not all([other in method for other in thing]):
        return False
    return letter not in thing and list(thing) == sorted(set(thing))
