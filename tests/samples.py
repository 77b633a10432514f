"""Trees and panes that several tests draw on: all small ones, and larger ones made from a seed."""

import itertools
import random

FORTY = tuple([f"n{number}" for number in range(40)])
# "a" and "ab" begin alike, so that a mix-up of names and signs shows.
NAMES = ("a", "ab", "b")


def file(path, text=""):
    return (way(path), "file", text)


def link(path, text):
    return (way(path), "link", text)


def folder(path):
    return (way(path), "folder", "")


def gone(path):
    return (way(path), "gone", "")


def shut(path):
    return (way(path), "shut", "")


def way(path):
    """The way that a path like /a/b tells, not read by the program itself."""
    return tuple([name for name in path.split("/") if name])


def chain(count, last="folder"):
    """Folders in one another along FORTY, `count` entries, the last with the mark `last`."""
    marks = ["folder"] * (count - 1) + [last]
    return [(FORTY[:number + 1], mark, "") for number, mark in enumerate(marks)]


def wide_tree():
    """A tree of four hundred entries: a way of forty names, and files in the last folder but one."""
    return chain(40) + [(FORTY[:39] + (f"w{number:03}",), "file", f"text {number}") for number in range(360)]


def small_trees():
    """Each tree of the names a and ab, with at most one thing within each folder."""
    inner = [[], [(("b",), "file", "x")], [(("b",), "folder", "")]]
    kinds = [[], [((), "file", "x")], [((), "file", "y")], [((), "link", "b")]]
    kinds += [[((), "folder", "")] + below for below in inner]
    trees = []
    for one, other in itertools.product(kinds, kinds):
        first = [(("a",) + under, mark, text) for under, mark, text in one]
        trees.append(first + [(("ab",) + under, mark, text) for under, mark, text in other])
    return trees


def random_thing(rng):
    return rng.choice([
        ("file", ""), ("file", "x"), ("file", "x y "), ("link", "/"), ("link", "a"), ("link", "../ab/b"),
        ("folder", ""), ("folder", ""), ("folder", ""),
    ])


def random_tree(rng, turns=8, deep=4, names=NAMES):
    things = {}
    for turn in range(turns):
        folders = [()] + [at for at, thing in things.items() if thing[0] == "folder" and len(at) < deep]
        things.setdefault(rng.choice(folders) + (rng.choice(names),), random_thing(rng))
    return [(at, mark, text) for at, (mark, text) in sorted(things.items())]


def random_trees(seed, count, **kinds):
    rng = random.Random(seed)
    return [random_tree(rng, **kinds) for turn in range(count)]


PANE_KINDS = [("file", "x"), ("file", "y"), ("link", "b"), ("folder", ""), ("gone", ""), ("shut", "")]


def panes_along(ways, kinds=PANE_KINDS):
    """Each pane with entries of those kinds at some of those ways, which come in their order."""
    panes = [[]]
    for at in ways:
        panes += [pane + [(at,) + kind] for pane in panes for kind in kinds if may_follow(pane, at, kind[0])]
    return panes


def may_follow(pane, at, mark):
    marks = {entry[0]: entry[1] for entry in pane}
    if at == ():
        return mark == "shut"
    if len(at) > 1 and marks.get(at[:-1]) not in ("folder", "shut"):
        return False
    within = any(marks.get(at[:count]) == "shut" for count in range(len(at)))
    return mark in ("file", "link", "folder") or not within


def deep_panes(kinds=PANE_KINDS):
    """Each pane along one way of three names."""
    return panes_along([(), ("a",), ("a", "a"), ("a", "a", "a")], kinds)


def trees_along(ways, kinds=(("file", "x"), ("file", "z"), ("link", "b"), ("folder", ""))):
    """Each tree with things of those kinds at some of those ways."""
    return panes_along(ways, kinds)


def random_pane(rng, turns=8, deep=4, names=NAMES):
    pane = [((), "shut", "")] if rng.random() < 0.15 else []
    ways = [()]
    for turn in range(turns):
        at = rng.choice(ways) + (rng.choice(names),)
        kind = rng.choice(PANE_KINDS + [("folder", ""), ("folder", ""), ("shut", "")])
        taken = [entry[0] for entry in pane]
        if at not in taken and len(at) <= deep and may_follow(pane, at, kind[0]):
            pane.append((at,) + kind)
            if kind[0] in ("folder", "shut"):
                ways.append(at)
    return sorted(pane)


def random_panes(seed, count, **kinds):
    rng = random.Random(seed)
    return [random_pane(rng, **kinds) for turn in range(count)]


def wide_pane():
    """A pane of four hundred entries with each of the marks, some at ways of forty names."""
    leaves = []
    for number in range(361):
        mark = ("file", "gone", "folder", "shut")[number % 4]
        leaves.append((FORTY[:39] + (f"w{number:03}",), mark, ""))
    return chain(39) + leaves


LINK_TEXTS = ["/", ".", "..", "a", "ab", "b", "/a", "/ab", "/b", "a/b", "../b", "/a/ab", "./a", "b/..", "/a/.", "0"]


def linked_tree(rng, turns=10, deep=3, names=NAMES):
    """A tree of which a third or so are links."""
    things = {}
    for turn in range(turns):
        folders = [()] + [at for at, thing in things.items() if thing[0] == "folder" and len(at) < deep]
        thing = rng.choice([("file", "x"), ("link", rng.choice(LINK_TEXTS)), ("folder", ""), ("folder", "")])
        things.setdefault(rng.choice(folders) + (rng.choice(names),), thing)
    return [(at, mark, text) for at, (mark, text) in sorted(things.items())]


def random_text(rng, most=4, names=NAMES):
    """A way text, now and then one that is none."""
    words = [rng.choice(names + names + ("..", ".", "0")) for turn in range(rng.randint(1, most))]
    text = rng.choice(["", "/"]) + "/".join(words)
    return rng.choice([text] * 30 + ["/", "", "a//b", text + "/"])


def random_deed(rng, names=NAMES):
    kind = rng.choice(["write", "write", "add", "folder", "folder", "link", "drop", "sweep", "move", "copy"])
    where = random_text(rng, names=names)
    if kind in ("write", "add"):
        return (kind, where, rng.choice(["", "x", "y z "]))
    if kind == "link":
        return (kind, where, rng.choice(LINK_TEXTS + ["", "a/"]))
    if kind in ("move", "copy"):
        return (kind, where, random_text(rng, names=names))
    return (kind, where)
