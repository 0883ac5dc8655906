"""Blind conductors, who only notice when the bells are round."""

from truetouch.callings import judge_calling
from truetouch.errors import BadRow, TooMany, Unreached
from truetouch.moves import rounds_of
from truetouch.rows import is_row
from truetouch.spreads import CODE_BASE, Spread, codes_told
from truetouch.tables import first_wrong, rows_of

MOST_HOPES = 400


class Blind:
    """The verdict whether a calling surely brings the bells to rounds, with the least one, or all hopes."""

    def __init__(self, band, row):
        nodes = {node: True for node in band.nodes()}
        if not is_row(row, band.method.stage) or (tuple(row), 0) not in nodes:
            raise Unreached(row)
        self.band = band
        self.row = tuple(row)
        self._hopes = Hopes(band, self.row)
        listed, self.calling = self._hopes.until_none_is_left()
        self.table = None
        if self.calling is None:
            self.table = tuple([self._hopes.spread.nodes_told(hope) for hope in listed])
        self._rows = self.table if self.calling is None else ()

    def hope(self, calling):
        """The nodes that can have come behind a calling without the bells having been round."""
        judge_calling(calling, self.band.method)
        hope = self._hopes.first
        for letter in calling:
            hope = self._hopes.behind_hope(hope, letter)
        return self._hopes.spread.nodes_told(hope)

    def __bool__(self):
        return self.calling is not None

    def __len__(self):
        return len(self._rows)

    def __iter__(self):
        return iter(self._rows)


class Hopes:
    """The hopes of a blind conductor who begins at a row, told by the codes of their nodes."""

    def __init__(self, band, row):
        self.spread = Spread(band)
        self.letters_called = band.method.letters
        self.round_code = self.spread.code((rounds_of(band.method.stage), 0)) // CODE_BASE
        self.first = self.still_hoped([self.spread.code((row, 0))])

    def still_hoped(self, codes):
        """The codes of the nodes at which the bells are not round."""
        return tuple([code for code in codes if code // CODE_BASE != self.round_code])

    def behind_hope(self, hope, letter):
        """The hope behind a letter that is called."""
        return self.still_hoped(self.spread.all_behind(hope, letter))

    def until_none_is_left(self):
        """The hopes in order, until the empty one comes, and the least calling to this; None if it never comes."""
        if len(self.first) == 0:
            return [], ""
        listed = [self.first]
        callings = {self.first: ""}
        at = 0
        while at < len(listed):
            hope = listed[at]
            for letter in self.letters_called:
                onward = self.behind_hope(hope, letter)
                if len(onward) == 0:
                    return listed, callings[hope] + letter
                if onward not in callings:
                    if len(listed) == MOST_HOPES:
                        raise TooMany("set")
                    callings[onward] = callings[hope] + letter
                    listed.append(onward)
            at += 1
        return listed, None


def judge_hopes(band, row, table):
    """Judges a table of hopes."""
    if not is_row(row, band.method.stage):
        raise BadRow(row)
    hopes = Hopes(band, tuple(row))
    rows = [codes_told(row_told, hopes.spread) for row_told in rows_of(table)]
    told = {hope: True for hope in rows if hope is not None}
    if hopes.first not in told:
        return -1
    # No row is empty, so a hope behind which none is left is never closed.
    return first_wrong([hope is not None and all([hopes.behind_hope(hope, letter) in told
                                                  for letter in hopes.letters_called]) for hope in rows])
