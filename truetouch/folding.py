"""Folded texts: the shortest ones, and of several the first as a string."""


def by_length(text):
    """Orders texts by their lengths, and those of one length as strings."""
    return (len(text), text)


def folded(words, joint, brackets):
    """The best text for the words, in which pieces follow one another with the joint between them.

    The brackets are a function; it tells the texts of one piece that stand for the words from a
    start to a stop, given the best texts for all shorter stretches of the words.
    """
    best = {}
    pieces = {}
    for width in range(1, len(words) + 1):
        for start in range(len(words) - width + 1):
            stop = start + width
            told = brackets(words, best, start, stop)
            pieces[start, stop] = min(told, key=by_length) if told else None
            best[start, stop] = best_row(best, pieces, joint, start, stop)
    return best[0, len(words)]


def best_row(best, pieces, joint, start, stop):
    """The best text from start to stop: one piece, or a piece and the best text for the rest."""
    told = []
    for middle in range(start + 1, stop):
        if pieces[start, middle] is not None:
            told.append(pieces[start, middle] + joint + best[middle, stop])
    if pieces[start, stop] is not None:
        told.append(pieces[start, stop])
    return min(told, key=by_length)


def repeats(words, start, stop):
    """The pairs of a number from 2 and a width: the words are so many times those of this width."""
    width = stop - start
    found = []
    for part in range(1, width // 2 + 1):
        if width % part == 0 and words[start + part:stop] == words[start:stop - part]:
            found.append((width // part, part))
    return found
