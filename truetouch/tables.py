"""What all judges of tables have in common."""

from truetouch.forms import is_tuple


def rows_of(table):
    """The rows of a table, none if it is no tuple."""
    return table if is_tuple(table) else ()


def first_wrong(rights):
    """The number of the first row that is not right, None if all are right."""
    for number, right in enumerate(rights):
        if not right:
            return number
    return None


def first_ranks(rows):
    """For each thing the rank in the first of its rows; a row that does not have its form is None."""
    ranks = {}
    for row in rows:
        if row is not None:
            ranks.setdefault(row[0], row[1])
    return ranks
