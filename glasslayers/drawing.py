"""The pane drawn from one tree to another, with as few entries as can be."""

from glasslayers.laying import laid
from glasslayers.sorting import keys_of, sorted_out


def is_folder(heap):
    """Whether a folder lies at the way whose entry, with those under it, is the heap; [] where nothing lies there."""
    return heap != [] and heap[0][1] == "folder"


def cheaper(first, second):
    return second if len(second) < len(first) else first


def drawn_names(one, other, depth):
    """What is drawn for the names in two folders whose ways have that many names, and who have these entries."""
    ones = sorted_out(one, depth)
    others = sorted_out(other, depth)
    drawn = []
    for name in keys_of(ones, others):
        drawn.extend(drawn_heap(ones.get(name, []), others.get(name, [])))
    return drawn


def drawn_heap(one, other):
    """What is drawn at a way and under it, of the entries that the two trees have at it and under it."""
    if one == other:
        return []
    if other == []:
        return [(one[0][0], "gone", "")]
    if not is_folder(one) or not is_folder(other):
        return other
    way = other[0][0]
    kept = [other[0]] + drawn_names(one[1:], other[1:], len(way))
    return cheaper(kept, [(way, "shut", "")] + other[1:])


def draw(one, other):
    if one == other:
        return []
    return cheaper(drawn_names(one, other, 0), [((), "shut", "")] + other)


def trimmed(pane, tree):
    return draw(tree, laid(pane, tree))
