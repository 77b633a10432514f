"""Parts of trees: taken off, taken out, put in."""

from glasslayers.entries import in_order
from glasslayers.ways import lies_under, shifted


def part(tree, way):
    return [(shifted(under, way, ()), mark, text) for under, mark, text in tree if lies_under(under, way)]


def without(tree, way):
    return [entry for entry in tree if entry[0] != way and not lies_under(entry[0], way)]


def planted(way, thing, below):
    """The entries of a thing at a way, and of the part below it."""
    return [(way, thing[0], thing[1])] + [(shifted(under, (), way), mark, text) for under, mark, text in below]


def grafted(tree, way, thing, below):
    return in_order(without(tree, way) + planted(way, thing, below))
