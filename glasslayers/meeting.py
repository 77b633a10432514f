"""Where two panes meet, so that they may not be exchanged, and how far a pane sinks."""

from glasslayers.entries import by_way
from glasslayers.panes import copies, numbered
from glasslayers.sorting import keys_of
from glasslayers.ways import leads


def are_folders(one, other):
    return one[1] in ("folder", "shut") and other[1] in ("folder", "shut")


def shut_over(entry, pane):
    """The shut entry of the pane, which has no entry at the entry's way, that hangs on it; None where none does."""
    if entry[1] == "gone":
        return None
    for way in [()] + leads(entry[0]):
        if way in pane and pane[way][1] == "shut":
            return pane[way]
    return None


def hanging_at(upper, lower, way):
    """The two entries that hang on one another at that place, the upper pane's first; None where none do."""
    one = upper.get(way)
    other = lower.get(way)
    if one is None:
        one = shut_over(other, upper)
    elif other is None:
        other = shut_over(one, lower)
    elif one == other or are_folders(one, other):
        return None
    return None if one is None or other is None else (one, other)


def meet(upper, lower):
    uppers = by_way(upper)
    lowers = by_way(lower)
    for way in keys_of(uppers, lowers):
        pair = hanging_at(uppers, lowers, way)
        if pair is not None:
            return pair
    return None


def meeting_place(pair):
    return max([pair[0][0], pair[1][0]], key=len)


def sunk(panes, k):
    pane = list(numbered(panes, k))
    others = copies(panes[:k] + panes[k + 1:])
    number = k
    pair = None
    while number > 0 and pair is None:
        pair = meet(pane, others[number - 1])
        if pair is None:
            number -= 1
    return (others[:number] + [pane] + others[number:], number, pair)
