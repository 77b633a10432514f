"""What the document says of panes, way by way and in its own words: slow, and without the program's own parts."""


def beginnings(way):
    """The ways that a way lies under, the root's too."""
    return [way[:count] for count in range(len(way))]


def marks(pane):
    return {entry[0]: entry[1] for entry in pane}


def hidden(pane, way):
    """Whether the pane has another mark than folder at a way that the way lies under."""
    found = marks(pane)
    return any(found.get(above, "folder") != "folder" for above in beginnings(way))


def silent(pane, way):
    return way not in marks(pane) and not hidden(pane, way)


def laid(pane, tree):
    entries = {entry[0]: entry for entry in pane}
    things = {entry[0]: entry for entry in tree}
    shown = []
    for way in sorted(set(entries) | set(things)):
        if way == ():
            continue
        if way in entries:
            mark = entries[way][1]
            if mark in ("file", "link"):
                shown.append(entries[way])
            if mark in ("folder", "shut"):
                shown.append((way, "folder", ""))
        elif not hidden(pane, way):
            shown.append(things[way])
    return shown


def seen(panes):
    return laid(panes[-1], seen(panes[:-1])) if panes else []


def press(upper, lower):
    found = [entry for entry in lower if silent(upper, entry[0])]
    below = marks(lower)
    for way, mark, text in upper:
        if hidden(lower, way):
            if mark != "gone":
                found.append((way, "folder" if mark == "shut" else mark, text))
        elif mark == "folder" and below.get(way, "folder") != "folder" and not hidden(upper, way):
            found.append((way, "shut", ""))
        else:
            found.append((way, mark, text))
    return sorted(found)


def under(tree, way):
    return [entry for entry in tree if entry[0][:len(way)] == way and entry[0] != way]


def draw(one, other):
    if one == other:
        return []
    drawn = draw_below(one, other, ())
    whole = [((), "shut", "")] + other
    return sorted(whole if len(whole) < len(drawn) else drawn)


def draw_below(one, other, way):
    ways = {entry[0] for entry in one + other if entry[0] != () and entry[0][:-1] == way}
    return [entry for at in ways for entry in draw_at(one, other, at)]


def draw_at(one, other, way):
    first = [entry for entry in one if entry[0] == way]
    second = [entry for entry in other if entry[0] == way]
    if first == second and under(one, way) == under(other, way):
        return []
    if not second:
        return [(way, "gone", "")]
    if second[0][1] in ("file", "link"):
        return second
    if not first or first[0][1] != "folder":
        return [(way, "folder", "")] + under(other, way)
    kept = [(way, "folder", "")] + draw_below(one, other, way)
    closed = [(way, "shut", "")] + under(other, way)
    return closed if len(closed) < len(kept) else kept


def hang(one, one_pane, other, other_pane):
    """Whether an entry of one pane and an entry of another one hang on one another."""
    if one[0] == other[0]:
        return one[1:] != other[1:] and not {one[1], other[1]} <= {"folder", "shut"}
    return hangs_under(one, one_pane, other) or hangs_under(other, other_pane, one)


def hangs_under(shut, pane, entry):
    below = shut[0] in beginnings(entry[0])
    return shut[1] == "shut" and below and entry[1] != "gone" and entry[0] not in marks(pane)


def meetings(upper, lower):
    """All pairs that hang on one another, each behind its place, in the order of the places."""
    found = []
    for one in upper:
        for other in lower:
            if hang(one, upper, other, lower):
                found.append((max(one[0], other[0], key=len), one, other))
    return sorted(found)
