"""Panes pressed into one that shows what they show together."""

from glasslayers.entries import in_order
from glasslayers.panes import hidden_ways, hides, left_alone, marks_of


def pressed_mark(mark, bare, closing):
    """The mark that an upper pane's entry has in the pressed one, None where it is left out.

    `bare`: the lower pane lets nothing through from under it to the entry's way.
    `closing`: it hides what lies under the entry's way, and no shut entry of the upper pane does so already.
    """
    if bare and mark == "gone":
        return None
    if bare and mark == "shut":
        return "folder"
    if not bare and closing and mark == "folder":
        return "shut"
    return mark


def changed_entries(upper, lower):
    marks = marks_of(lower)
    bare = hidden_ways(lower, upper)
    shut = hidden_ways(upper, upper)
    changed = []
    for way, mark, text in upper:
        closing = hides(marks.get(way)) and way not in shut
        changed.append((way, pressed_mark(mark, way in bare, closing), text))
    return [entry for entry in changed if entry[1] is not None]


def press(upper, lower):
    return in_order(left_alone(upper, lower) + changed_entries(upper, lower))


def pressed(panes):
    whole = []
    for pane in panes:
        whole = press(pane, whole)
    return whole
