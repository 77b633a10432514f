"""Walks and deeds in folders within folders: dicts, with a tuple (mark, text) for each file and link.

Told once more from the document, in another form than the program's own, so that the two can be held together.
"""

from glasslayers import errors


def nest(tree):
    root = {}
    for way, mark, text in tree:
        node(root, way[:-1])[way[-1]] = {} if mark == "folder" else (mark, text)
    return root


def flat(root, way=()):
    entries = []
    for name, thing in root.items():
        if isinstance(thing, dict):
            entries.append((way + (name,), "folder", ""))
            entries += flat(thing, way + (name,))
        else:
            entries.append((way + (name,),) + thing)
    return sorted(entries)


def node(root, way):
    """What lies at a way, None where nothing does."""
    for name in way:
        root = root.get(name) if isinstance(root, dict) else None
    return root


def split(text):
    """The words of a way text, behind a first one "/" where it is rooted; NoWay where it is none."""
    rooted = text[:1] == "/"
    words = text[1:].split("/") if rooted else text.split("/")
    if text == "/":
        return ["/"]
    for word in words:
        plain = len(word) in range(1, 13) and set(word) <= set("abcdefghijklmnopqrstuvwxyz0123456789")
        if not plain and word not in (".", ".."):
            raise errors.NoWay
    if len(words) > 40:
        raise errors.NoWay
    return (["/"] if rooted else []) + words


class Walk:
    def __init__(self, root):
        self.root = root
        self.links = 0
        self.trail = []

    def count_link(self):
        self.links += 1
        if self.links == 9:
            raise errors.Astray

    def go(self, at, words):
        """The way that the words, with "/" for the root, lead to from a folder."""
        if not words:
            return at
        word, rest = words[0], words[1:]
        if word == "/":
            return self.go((), rest)
        if word == ".":
            then = at
        elif word == "..":
            then = at[:-1]
        else:
            thing = node(self.root, at + (word,))
            if thing is None:
                raise errors.Missing
            then = at + (word,)
            if not isinstance(thing, dict) and thing[0] == "link":
                self.count_link()
                led = split(thing[1])
                self.trail.append((at, word, () if led[0] == "/" else at))
                return self.go(at, led + rest)
            if not isinstance(thing, dict):
                if rest:
                    raise errors.NotFolder
                self.trail.append((at, word, then))
                return then
        self.trail.append((at, word, then))
        return self.go(then, rest)

    def place(self, at, text):
        words = split(text)
        if words[-1] in ("/", ".", ".."):
            raise errors.NoPlace
        above = self.go(at, words[:-1])
        if not isinstance(node(self.root, above), dict):
            raise errors.NotFolder
        return above + (words[-1],)

    def goal(self, at, text):
        place = self.place(at, text)
        thing = node(self.root, place)
        if isinstance(thing, tuple) and thing[0] == "link":
            self.count_link()
            return self.goal(place[:-1], thing[1])
        return place


def find_way(tree, at, text):
    return Walk(nest(tree)).go(at, split(text))


def trail_of(tree, at, text):
    walk = Walk(nest(tree))
    walk.go(at, split(text))
    return walk.trail


def place_of(tree, at, text):
    return Walk(nest(tree)).place(at, text)


def goal_of(tree, at, text):
    return Walk(nest(tree)).goal(at, text)


def put(root, way, thing, room=True):
    if max([len(way)] + [len(way + entry[0]) for entry in (flat(thing) if isinstance(thing, dict) else [])]) > 12:
        raise errors.TooDeep
    count = 1 + (len(flat(thing)) if isinstance(thing, dict) else 0)
    if room and len(flat(root)) + count > 60:
        raise errors.Crowded
    node(root, way[:-1])[way[-1]] = thing


def done(tree, deed):
    root = nest(tree)
    kind, where, rest = deed[0], deed[1], deed[2:]
    if kind == "write":
        way = Walk(root).goal((), where)
        if isinstance(node(root, way), dict):
            raise errors.IsFolder
        if node(root, way) is None:
            put(root, way, ("file", rest[0]))
        node(root, way[:-1])[way[-1]] = ("file", rest[0])
        return flat(root)
    if kind == "add":
        way = Walk(root).go((), split(where))
        if isinstance(node(root, way), dict):
            raise errors.IsFolder
        node(root, way[:-1])[way[-1]] = ("file", node(root, way)[1] + rest[0])
        return flat(root)
    way = Walk(root).place((), where)
    if kind in ("folder", "link"):
        if kind == "link":
            split(rest[0])
        if node(root, way) is not None:
            raise errors.IsThere
        put(root, way, {} if kind == "folder" else ("link", rest[0]))
        return flat(root)
    if node(root, way) is None:
        raise errors.Missing
    if kind in ("drop", "sweep"):
        if kind == "drop" and isinstance(node(root, way), dict) and node(root, way):
            raise errors.NotEmpty
        del node(root, way[:-1])[way[-1]]
        return flat(root)
    to = Walk(root).place((), rest[0])
    if to[:len(way)] == way:
        raise errors.InItself
    if node(root, to) is not None:
        raise errors.IsThere
    thing = node(root, way)
    put(root, to, nest(flat(thing)) if isinstance(thing, dict) else thing, kind == "copy")
    if kind == "move":
        del node(root, way[:-1])[way[-1]]
    return flat(root)


def outcome(function, *handed):
    """What a function tells, or the class of its refusal."""
    try:
        return function(*handed)
    except errors.GlassError as refusal:
        return type(refusal)
