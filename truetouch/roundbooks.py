"""Whether every way of going on in a book comes home."""

from truetouch.books import home_of, standing_told
from truetouch.forms import is_rank, is_tuple_of
from truetouch.ranks import ranks_of
from truetouch.standings import least_loop, standings_reached
from truetouch.tables import first_ranks, first_wrong, rows_of


class RoundVerdict:
    """The verdict whether a book is round, with the ranks of its standings, or the breach."""

    def __init__(self, book):
        callings, followers = standings_reached(book)
        ranks = ranks_of({standing: tuple([onward for _, onward in led]) for standing, led in followers.items()})
        self.breach = breach_of(book, callings, followers, ranks)
        self.table = None
        if self.breach is None:
            self.table = tuple([(standing, ranks[standing]) for standing in callings])
        self._rows = self.table if self.breach is None else ()

    def __bool__(self):
        return self.breach is None

    def __len__(self):
        return len(self._rows)

    def __iter__(self):
        return iter(self._rows)


def breach_of(book, callings, followers, ranks):
    """The stuck standing or the loop by which the book is not round, None if there is none."""
    for standing in callings:
        if book.is_stuck(standing):
            return ("stuck", callings[standing])
    for standing in callings:
        # Only from standings without a rank a loop can be come to at all.
        loop = None if standing in ranks else least_loop(standing, followers)
        if loop is not None:
            return ("loop", callings[standing], loop)
    return None


def judge_round(book, table):
    """Judges a table of ranks."""
    rows = [ranked_standing(row, book.method.stage) for row in rows_of(table)]
    ranks = first_ranks(rows)
    if book.beginning not in ranks:
        return -1
    return first_wrong([row is not None and comes_home(book, row, ranks) for row in rows])


def ranked_standing(thing, stage):
    """The pair of a standing and a rank that a row of a table tells, None if it does not have this form."""
    if not is_tuple_of(thing, 2, 2) or not is_rank(thing[1]):
        return None
    standing = standing_told(thing[0], stage)
    return None if standing is None else (standing, thing[1])


def comes_home(book, row, ranks):
    """Whether the standing of the row is home, or has followers, which all have lesser ranks."""
    standing, rank = row
    if standing == home_of(book):
        return True
    followers = book.followers(standing)
    return len(followers) > 0 and all([onward in ranks and ranks[onward] < rank for _, onward in followers])
