"""Looking through panes: which pane tells of a way, what lies there, the names in a folder."""

from glasslayers.laying import seen
from glasslayers.panes import is_silent
from glasslayers.trees import names_in, thing_at


def whence(panes, way):
    numbers = [number for number, pane in enumerate(panes) if not is_silent(pane, way)]
    return max(numbers, default=None)


def look(panes, way):
    return thing_at(seen(panes), way)


def listed(panes, way):
    return names_in(seen(panes), way)
