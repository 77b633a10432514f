"""Deeds: what each does to a tree, and what it is refused with."""

from glasslayers.changes import changed, refuse_crowd, refuse_depth
from glasslayers.errors import InItself, IsFolder, IsThere, Missing, NotEmpty
from glasslayers.finding import find_way, goal_of, place_of
from glasslayers.parts import part
from glasslayers.trees import thing_at
from glasslayers.ways import lies_under
from glasslayers.words import words_of


def put_new(tree, way, thing):
    """The change that puts a thing in where nothing lies."""
    refuse_depth(way, [])
    refuse_crowd(tree, [])
    return (way, thing, [])


def refuse_taken(tree, way):
    if thing_at(tree, way) is not None:
        raise IsThere("something lies there")


def taken_place(tree, where):
    way = place_of(tree, (), where)
    if thing_at(tree, way) is None:
        raise Missing("nothing lies there")
    return way


def write_changes(tree, deed):
    way = goal_of(tree, (), deed[1])
    thing = thing_at(tree, way)
    if thing is None:
        return [put_new(tree, way, ("file", deed[2]))]
    if thing[0] == "folder":
        raise IsFolder("a folder lies there")
    return [(way, ("file", deed[2]), [])]


def add_changes(tree, deed):
    way = find_way(tree, (), deed[1])
    thing = thing_at(tree, way)
    if thing[0] == "folder":
        raise IsFolder("a folder lies there")
    return [(way, ("file", thing[1] + deed[2]), [])]


def folder_changes(tree, deed):
    way = place_of(tree, (), deed[1])
    refuse_taken(tree, way)
    return [put_new(tree, way, ("folder", ""))]


def link_changes(tree, deed):
    way = place_of(tree, (), deed[1])
    # Asked for its refusal alone: a link may lead to nothing.
    words_of(deed[2])
    refuse_taken(tree, way)
    return [put_new(tree, way, ("link", deed[2]))]


def drop_changes(tree, deed):
    way = taken_place(tree, deed[1])
    if part(tree, way) != []:
        raise NotEmpty("the folder has something in it")
    return [(way, None, [])]


def sweep_changes(tree, deed):
    return [(taken_place(tree, deed[1]), None, [])]


def carried(tree, deed):
    """A tuple of the first place, and of the change that puts what lies there in at the second one."""
    first = taken_place(tree, deed[1])
    second = place_of(tree, (), deed[2])
    if second == first or lies_under(second, first):
        raise InItself("the second place lies in the first one")
    refuse_taken(tree, second)
    below = part(tree, first)
    refuse_depth(second, below)
    return (first, (second, thing_at(tree, first), below))


def move_changes(tree, deed):
    found = carried(tree, deed)
    return [(found[0], None, []), found[1]]


def copy_changes(tree, deed):
    change = carried(tree, deed)[1]
    refuse_crowd(tree, change[2])
    return [change]


CHANGES = {
    "write": write_changes,
    "add": add_changes,
    "folder": folder_changes,
    "link": link_changes,
    "drop": drop_changes,
    "sweep": sweep_changes,
    "move": move_changes,
    "copy": copy_changes,
}


def changes_of(tree, deed):
    return CHANGES[deed[0]](tree, deed)


def done(tree, deed):
    return changed(tree, changes_of(tree, deed))
