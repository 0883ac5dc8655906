"""Seeing conductors, who know the head and surely bring the bells to rounds, whatever the band mishears."""

from truetouch.errors import BadRung, NoValue, Unreached
from truetouch.forms import is_integer, is_tuple_of
from truetouch.gamevalues import NO_VALUE, values_of
from truetouch.methods import judge_letter
from truetouch.moves import rounds_of
from truetouch.rows import is_row
from truetouch.tables import first_ranks, first_wrong, rows_of


class Seeing:
    """For each node of a band the number of leads within which the conductor surely brings the bells to rounds."""

    def __init__(self, band):
        land = NodeNumbers(band)
        values = values_of(land.onward, land.rounds_numbers, False)
        self.band = band
        self.table = tuple([(row, already, value) for (row, already), value in zip(land.listed, values)])
        self._values = {node: value for node, value in zip(land.listed, values)}
        self._trap = tuple([node for node in land.listed if self._values[node] == NO_VALUE])

    @property
    def trap(self):
        """The nodes without a value, in order."""
        return self._trap

    def value(self, row, made=0):
        """The value of a node, -1 if it has none."""
        return self._values[self.node_at(row, made)]

    def plan(self, row, made=0):
        """The letter that is called at a node, None where the bells are round."""
        node = self.node_at(row, made)
        value = self._values[node]
        if value == NO_VALUE:
            raise NoValue(row)
        for letter in self.band.method.letters:
            behind = [self._values[led] for _, led in self.band.behind(node, letter)]
            if value > 0 and NO_VALUE not in behind and max(behind) == value - 1:
                return letter
        return None

    def answer(self, row, made, letter):
        """The letter that the band rings for the one called, so that the value behind is greatest."""
        node = self.node_at(row, made)
        judge_letter(self.band.method, letter)
        told = self.band.behind(node, letter)
        # No value is greater than there are nodes.
        worths = [len(self._values) if self._values[led] == NO_VALUE else self._values[led] for _, led in told]
        return told[worths.index(max(worths))][0]

    def play(self, row, rung):
        """The letters called while the band rings these letters, and the node at the end."""
        node = self.node_at(row, 0)
        if self._values[node] == NO_VALUE:
            raise NoValue(row)
        if not isinstance(rung, str):
            raise BadRung(-1)
        called = ""
        for number, letter in enumerate(rung):
            call = self.plan(node[0], node[1])
            led = {} if call is None else {told: onward for told, onward in self.band.behind(node, call)}
            if letter not in led:
                raise BadRung(number)
            called = called + call
            node = led[letter]
        return (called, node)

    def node_at(self, row, number):
        """The node with this head and this number of leads misheard."""
        if not is_row(row, self.band.method.stage) or not is_integer(number):
            raise Unreached(row)
        node = (tuple(row), number)
        if node not in self._values:
            raise Unreached(row)
        return node

    def __len__(self):
        return len(self.table)

    def __iter__(self):
        return iter(self.table)


class NodeNumbers:
    """The nodes of a band by their numbers, and for each one the numbers that can be behind each letter called."""

    def __init__(self, band):
        self.band = band
        self.listed = band.nodes()
        self.numbers = {node: number for number, node in enumerate(self.listed)}
        self.onward = [[self.behind_call(node, letter) for letter in band.method.letters] for node in self.listed]
        start = rounds_of(band.method.stage)
        self.rounds_numbers = [number for number, (row, _) in enumerate(self.listed) if row == start]

    def behind_call(self, node, letter):
        """The numbers of the nodes to which the band can come when the letter is called, ascending."""
        return sorted({self.numbers[led] for _, led in self.band.behind(node, letter)})


def judge_seeing(band, table):
    """Judges a table of values."""
    land = NodeNumbers(band)
    rows = [valued_node(row, land) for row in rows_of(table)]
    values = first_ranks(rows)
    if len(values) < len(land.listed):
        return -1
    return first_wrong([row is not None and row[1] == value_due(row[0], land, values) for row in rows])


def valued_node(thing, land):
    """The number of the node and the value that a row of a table tells, None if it does not have this form."""
    if not is_tuple_of(thing, 3, 3) or not is_row(thing[0], land.band.method.stage):
        return None
    if not is_integer(thing[1]) or not is_integer(thing[2]) or thing[2] < NO_VALUE:
        return None
    number = land.numbers.get((tuple(thing[0]), thing[1]))
    return None if number is None else (number, thing[2])


def value_due(number, land, values):
    """The value of the node with this number, by the values of those behind it."""
    if number in land.rounds_numbers:
        return 0
    told = [[values[led] for led in behind] for behind in land.onward[number]]
    greatest = [max(behind) for behind in told if NO_VALUE not in behind]
    return 1 + min(greatest) if greatest else NO_VALUE
