"""Panes: what a pane is, and of which ways it is silent."""

from glasslayers.entries import are_entries
from glasslayers.errors import NoPane
from glasslayers.trees import TREE_MARKS
from glasslayers.ways import above, lies_under


def may_stand(way, mark, shut_above):
    """`shut_above`: whether the way lies under a shut entry; None where no entry above lets one stand there."""
    if way == ():
        return mark == "shut"
    if shut_above is None:
        return False
    return mark in TREE_MARKS or not shut_above


def is_pane(entries):
    if not are_entries(entries):
        return False
    # Each way that entries may stand under, and whether they stand under a shut entry then.
    shut_under = {(): False}
    for way, mark, text in entries:
        if not may_stand(way, mark, shut_under.get(above(way))):
            return False
        if mark in ("folder", "shut"):
            shut_under[way] = mark == "shut" or shut_under[above(way)]
    return True


def marks_of(pane):
    marks = {}
    for way, mark, text in pane:
        marks[way] = mark
    return marks


def hides(mark):
    """Whether an entry with that mark hides what lies under its way; None is the mark of no entry."""
    return mark is not None and mark != "folder"


def hidden_ways(pane, entries):
    """The ways of a tree's or a pane's entries that lie under an entry of the pane which hides."""
    marks = marks_of(pane)
    hidden = {}
    for way, mark, text in entries:
        # The entry at the way above stands ahead in the list, so all is known of it by now.
        if way != () and (above(way) in hidden or hides(marks.get(above(way)))):
            hidden[way] = True
    return hidden


def left_alone(pane, entries):
    """The entries of a tree or a pane of whose ways the pane is silent."""
    marks = marks_of(pane)
    hidden = hidden_ways(pane, entries)
    return [entry for entry in entries if entry[0] not in marks and entry[0] not in hidden]


def is_silent(pane, way):
    return not any([at == way or hides(mark) and lies_under(way, at) for at, mark, text in pane])


def numbered(panes, k):
    """The pane with the number k in a list of panes."""
    # Python would take a number below 0 for one that counts from the list's end.
    if not 0 <= k < len(panes):
        raise NoPane("no pane has that number")
    return panes[k]


def copies(panes):
    return [list(pane) for pane in panes]
