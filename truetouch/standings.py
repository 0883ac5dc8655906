"""The least callings by which things are come to when several can be come to by one calling."""

from truetouch.books import followers_of, standing_told
from truetouch.errors import TooMany
from truetouch.folding import by_length
from truetouch.tables import rows_of

MOST_STANDINGS = 400


def least_callings(start, behind, most):
    """For each thing that is come to from the start its least calling, in the order of these callings.

    Things with the same calling ascend. What is behind a thing is told by a function, as pairs of a
    letter and a thing. It is None if there are more than so many things.
    """
    callings = {start: ""}
    groups = [[start]]
    at = 0
    while at < len(groups):
        group = groups[at]
        fresh = {}
        # All things of a group have the same calling, so its letters are gone through for all of them together.
        for letter, thing in sorted({pair for member in group for pair in behind(member)}):
            if thing not in callings:
                if len(callings) == most:
                    return None
                callings[thing] = callings[group[0]] + letter
                fresh.setdefault(letter, []).append(thing)
        groups.extend(list(fresh.values()))
        at += 1
    return callings


def standings_reached(book):
    """For each standing of a book its least calling, and for each one its followers, both in order."""
    def behind(standing):
        return followers_of(book, standing[0], standing[1])

    callings = least_callings(book.beginning, behind, MOST_STANDINGS)
    if callings is None:
        raise TooMany("standing")
    return callings, {standing: behind(standing) for standing in callings}


def least_loop(start, followers):
    """The least calling of at least one letter by which followers lead back to the start, None if none does."""

    def behind(standing):
        return followers[standing]

    callings = least_callings(start, behind, len(followers))
    loops = [calling + letter for standing, calling in callings.items()
             for letter, onward in followers[standing] if onward == start]
    return min(loops, key=by_length) if loops else None


def standings_told(book, table):
    """For each row of a table the standing that it is, None if it is none."""
    return [standing_told(row, book.method.stage) for row in rows_of(table)]
