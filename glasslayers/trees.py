"""Trees: what lies at a way, and the names in a folder."""

from glasslayers.entries import are_entries
from glasslayers.errors import Missing, NotFolder
from glasslayers.ways import above

TREE_MARKS = ("file", "link", "folder")
ROOT_THING = ("folder", "")


def is_tree(entries):
    if not are_entries(entries):
        return False
    folders = {(): True}
    for way, mark, text in entries:
        # Above the root's way is the root's way, so it is asked for by itself.
        if way == () or mark not in TREE_MARKS or above(way) not in folders:
            return False
        if mark == "folder":
            folders[way] = True
    return True


def things_of(tree):
    """What lies at each way at which something lies, the root's way too."""
    things = {(): ROOT_THING}
    for way, mark, text in tree:
        things[way] = (mark, text)
    return things


def thing_at(tree, way):
    return things_of(tree).get(way)


def names_in(tree, way):
    thing = thing_at(tree, way)
    if thing is None:
        raise Missing("nothing lies there")
    if thing[0] != "folder":
        raise NotFolder("no folder lies there")
    return sorted([entry[0][-1] for entry in tree if above(entry[0]) == way])
