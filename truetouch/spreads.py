"""All nodes to which a band can come by what is called, when several can have come before.

Nodes are reckoned with by their codes: the digits of the row and of the number of leads misheard. Codes
of one stage are ordered as their nodes are.
"""

from truetouch.bands import is_node
from truetouch.forms import is_tuple

CODE_BASE = 10


class Spread:
    """The codes of nodes of a band, and the codes behind them."""

    def __init__(self, band):
        self.band = band
        self.node_of = {}
        self.led = {letter: {} for letter in band.method.letters}

    def code(self, node):
        """The code of a node."""
        row, already = node
        number = 0
        for bell in row:
            number = number * CODE_BASE + bell
        number = number * CODE_BASE + already
        self.node_of[number] = node
        return number

    def codes_behind(self, code, letter):
        """The codes of the nodes to which the band can come from this one when the letter is called."""
        led = self.led[letter]
        if code not in led:
            told = self.band.behind(self.node_of[code], letter)
            led[code] = [self.code(node) for _, node in told]
        return led[code]

    def all_behind(self, codes, letter):
        """The codes of the nodes to which the band can come from any of these, ascending."""
        return sorted({led for code in codes for led in self.codes_behind(code, letter)})

    def nodes_told(self, codes):
        """The nodes of these codes."""
        return tuple([self.node_of[code] for code in codes])


def codes_told(thing, spread):
    """The codes of an ascending tuple of at least one node, None if it does not have this form."""
    if not is_tuple(thing) or len(thing) == 0 or not all([is_node(node, spread.band) for node in thing]):
        return None
    codes = [spread.code((tuple(row), already)) for row, already in thing]
    return tuple(codes) if codes == sorted(set(codes)) else None
