"""What the statements of a program do at all heads of its method: maps from numbers of heads to such.

Behind the numbers of the heads come two more, for a run that has come home and for one that is endless;
both stay what they are.
"""

from truetouch.heads import Heads
from truetouch.moves import compose
from truetouch.outlines import Outline
from truetouch.programs import variable_of


class HeadMaps:
    """The maps of the statements of a program, for the kinds of the values of the variables in them."""

    def __init__(self, program):
        self.program = program
        self.rows = tuple(Heads(program.method))
        self.outline = Outline(program.script)
        self.home = len(self.rows)
        self.endless = self.home + 1
        self.lead_maps = lead_maps(program.method, self.rows)
        self.kept = {}
        self.kept_passes = {}

    def of_statement(self, number, worths):
        """The map of the statement with this number, for these values."""
        statement = self.outline.told[number]
        name = variable_of(statement)
        if name is not None:
            return self.of_passes(number, worths, worths[name])
        key = self.key(number, worths)
        if key not in self.kept:
            self.kept[key] = self.made(statement, self.outline.inner[number], worths)
        return self.kept[key]

    def key(self, number, worths):
        """The statement with this number and the values of the variables in its bodies."""
        return (number, tuple([worths[name] for name in self.outline.names_inside[number]]))

    def made(self, statement, inner, worths):
        """The map of a statement that is no repeat with a variable."""
        if statement[0] == "call":
            return self.of_calling(statement[1])
        if statement[0] == "repeat":
            return self.repeated(self.of_body(inner[0], worths), statement[1])
        at_places = [row.index(statement[1]) + 1 in statement[2] for row in self.rows]
        first = self.of_body(inner[0], worths)
        if statement[0] == "until":
            return self.of_until(at_places, first)
        second = self.of_body(inner[1], worths)
        return [first[at] if is_there else second[at] for at, is_there in enumerate(at_places + [False, False])]

    def of_calling(self, calling):
        """The map of leads, one after the other."""
        found = self.still()
        for letter in calling:
            found = joined(found, self.lead_maps[letter])
        return found

    def of_body(self, numbers, worths):
        """The map of statements, one after the other."""
        found = self.still()
        for number in numbers:
            found = joined(found, self.of_statement(number, worths))
        return found

    def repeated(self, body, times):
        """The map of so many passes of a body."""
        found = self.still()
        while times > 0:
            if times % 2 == 1:
                found = joined(found, body)
            body = joined(body, body)
            times = times // 2
        return found

    def of_passes(self, number, worths, times):
        """The map of so many passes of the body of a repeat with a variable; those of fewer are kept."""
        key = self.key(number, worths)
        if key not in self.kept_passes:
            self.kept_passes[key] = [self.still(), self.of_body(self.outline.inner[number][0], worths)]
        passes = self.kept_passes[key]
        while len(passes) <= times:
            passes.append(joined(passes[-1], passes[1]))
        return passes[times]

    def of_until(self, at_places, body):
        """The map of an until, which asks at a head whether it is at the places."""
        found = {self.home: self.home, self.endless: self.endless}
        for start in range(self.home):
            asked = {}
            at = start
            while at not in found and at not in asked and not at_places[at]:
                asked[at] = True
                at = body[at]
            end = self.endless if at in asked else found.get(at, at)
            found[at] = end
            for passed in asked:
                found[passed] = end
        return [found[at] for at in range(self.endless + 1)]

    def still(self):
        """The map that leaves all as they are."""
        return list(range(self.endless + 1))


def joined(first, second):
    """The map of the first and then the second."""
    return [second[at] for at in first]


def lead_maps(method, rows):
    """For each letter the map of its lead; whatever comes to rounds is home."""
    home = len(rows)
    numbers = {row: number for number, row in enumerate(rows)}
    # The first of the heads is rounds.
    numbers[rows[0]] = home
    return {letter: [numbers[compose(row, method.head(letter))] for row in rows] + [home, home + 1]
            for letter in method.letters}
