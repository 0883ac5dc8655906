"""The rows to which words lead, with the least words that lead to them."""

from truetouch.moves import compose, rounds_of

MOST_ROWS = 800


def least_words(stage, menu):
    """For each row to which a word leads from rounds its least word, in the order of these words.

    It is None if there are too many rows. The letters of the menu ascend: so whatever is come to
    first is come to by its least word.
    """
    rows = [rounds_of(stage)]
    words = {rows[0]: ""}
    at = 0
    while at < len(rows):
        row = rows[at]
        for letter, move in menu:
            onward = compose(row, move)
            if onward not in words:
                if len(rows) == MOST_ROWS:
                    return None
                words[onward] = words[row] + letter
                rows.append(onward)
        at += 1
    return words


def farthest_rows(words):
    """The rows whose least words are longest, in their order."""
    longest = max([len(word) for word in words.values()])
    return tuple([row for row in words if len(words[row]) == longest])


def menu_of_method(method):
    """The letters of the method, ascending, with their head moves."""
    return tuple([(letter, method.head(letter)) for letter in method])
