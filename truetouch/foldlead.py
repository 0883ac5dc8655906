"""The folded text of a lead."""

from truetouch.changes import write_change
from truetouch.folding import folded, repeats


def fold_lead(lead):
    """The shortest lead text that stands for the lead; of several, the first one as a string."""
    return folded([write_change(change) for change in lead], ".", lead_pieces)


def lead_pieces(words, best, start, stop):
    """The texts of one piece that stand for the changes from start to stop."""
    if stop - start == 1:
        return [words[start]]
    told = [f"{times}({best[start, start + part]})" for times, part in repeats(words, start, stop)]
    part = words[start:stop]
    if len(part) % 2 == 1 and part == part[::-1]:
        told.append(f"<{best[start, start + len(part) // 2 + 1]}>")
    return told
