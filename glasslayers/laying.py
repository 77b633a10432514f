"""Panes laid over trees, and over one another."""

from glasslayers.entries import in_order
from glasslayers.panes import left_alone


def shown(way, mark, text):
    """What an entry of a pane, not a gone one and not the root's, puts into the tree that is seen."""
    return (way, "folder", "") if mark == "shut" else (way, mark, text)


def laid(pane, tree):
    put = [shown(way, mark, text) for way, mark, text in pane if way != () and mark != "gone"]
    return in_order(left_alone(pane, tree) + put)


def seen(panes):
    tree = []
    for pane in panes:
        tree = laid(pane, tree)
    return tree
