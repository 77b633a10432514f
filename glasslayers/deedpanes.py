"""The pane of a deed: what it changes in a tree, written as entries."""

from glasslayers.deeds import changes_of
from glasslayers.entries import in_order
from glasslayers.parts import planted
from glasslayers.ways import leads


def written(way, thing, below):
    """What a change writes into a pane at its way and under it."""
    return [(way, "gone", "")] if thing is None else planted(way, thing, below)


def pane_of(tree, deed):
    folders = {}
    entries = []
    for way, thing, below in changes_of(tree, deed):
        entries.extend(written(way, thing, below))
        for lead in leads(way):
            folders[lead] = True
    return in_order(entries + [(lead, "folder", "") for lead in folders])
