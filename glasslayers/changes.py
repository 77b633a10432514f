"""Changes of a tree: tuples (way, thing, below) that tell what comes to lie at a place.

The thing is None where what lies there goes, with all that lies under it; else the thing comes in at the way,
and the part `below` under it, in the place of what was there.
"""

from glasslayers.errors import Crowded, TooDeep
from glasslayers.parts import grafted, without

MOST_NAMES = 12
MOST_ENTRIES = 60


def refuse_depth(way, below):
    deepest = max([len(under) for under, mark, text in below], default=0)
    if len(way) + deepest > MOST_NAMES:
        raise TooDeep("a way would have too many names")


def refuse_crowd(tree, below):
    """Of a tree into which one thing more comes, and the part below it."""
    if len(tree) + 1 + len(below) > MOST_ENTRIES:
        raise Crowded("the tree would have too many entries")


def changed(tree, changes):
    for way, thing, below in changes:
        tree = without(tree, way) if thing is None else grafted(tree, way, thing, below)
    return tree
