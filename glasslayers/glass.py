"""The glass: panes over one another, of which deeds change the top one alone."""

from glasslayers.deedpanes import pane_of
from glasslayers.drawing import trimmed
from glasslayers.errors import NoPane
from glasslayers.laying import seen
from glasslayers.meeting import sunk
from glasslayers.panes import copies, numbered
from glasslayers.pressing import press


class Glass:
    def __init__(self, panes):
        self.layers = copies(panes)

    def seen(self):
        return seen(self.layers)

    def panes(self):
        return copies(self.layers)

    def do(self, deed):
        if self.layers == []:
            raise NoPane("the glass has no pane")
        self.layers[-1] = press(pane_of(seen(self.layers), deed), self.layers[-1])

    def lay(self):
        self.layers.append([])

    def lift(self):
        if self.layers == []:
            raise NoPane("the glass has no pane")
        return self.layers.pop()

    def weld(self, k):
        # The lowest pane has none under it, and -1 is no number of a pane either.
        welded = press(numbered(self.layers, k), numbered(self.layers, k - 1))
        self.layers = self.layers[:k - 1] + [welded] + self.layers[k + 1:]

    def sink(self, k):
        found = sunk(self.layers, k)
        self.layers = found[0]
        return (found[1], found[2])

    def trim(self, k):
        pane = trimmed(numbered(self.layers, k), seen(self.layers[:k]))
        self.layers[k] = pane
        return len(pane)
