"""What somebody knows who hears what is called and sees the bells in some places."""

from truetouch.bands import Band
from truetouch.heads import Heads
from truetouch.spreads import CODE_BASE, Spread


class Sight:
    """Knowledges, told by the codes of their possibilities, and the steps that are possible from them."""

    def __init__(self, method, places, slips):
        self.method = method
        self.places = places
        # Who can mistake any letter for any other one is a band that can mishear it so.
        self.spread = Spread(Band(method, all_mistakes(method.letters), slips))
        self.bells = {}

    def first_knowledge(self):
        """The knowledge of somebody who has not watched yet."""
        return tuple(sorted([self.spread.code((head, 0)) for head in Heads(self.method)]))

    def bells_seen(self, code):
        """The bells in the watched places."""
        if code not in self.bells:
            row, _ = self.spread.node_of[code]
            self.bells[code] = tuple([row[place - 1] for place in self.places])
        return self.bells[code]

    def steps_by(self, knowledge, letter):
        """For each tuple of bells that can be seen when the letter has been called, the knowledge behind it."""
        groups = {}
        for code in self.spread.all_behind(knowledge, letter):
            groups.setdefault(self.bells_seen(code), []).append(code)
        return {bells: tuple(groups[bells]) for bells in groups}

    def steps_from(self, knowledge):
        """The steps that are possible from the knowledge, ascending, each with the knowledge behind it."""
        told = []
        for letter in self.method.letters:
            groups = self.steps_by(knowledge, letter)
            told.extend([((letter, bells), groups[bells]) for bells in sorted(groups)])
        return told


def is_doubtful(knowledge):
    """Whether two possibilities have different heads; they ascend, so the first and the last one have then."""
    return knowledge[0] // CODE_BASE != knowledge[-1] // CODE_BASE


def all_mistakes(letters):
    """The pairs of each letter and all others, if there are others."""
    if len(letters) == 1:
        return ()
    return tuple([(letter, letters.replace(letter, "")) for letter in letters])
