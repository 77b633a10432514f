"""The desk: a glass that is told rows of text, and answers each with a text."""

from glasslayers.errors import IsFolder, NoRow
from glasslayers.finding import find_way
from glasslayers.glass import Glass
from glasslayers.meeting import meeting_place
from glasslayers.notes import read_pane, shown_pane
from glasslayers.panes import numbered
from glasslayers.trees import names_in, thing_at
from glasslayers.words import shown_way

LOAD = "load\n"
FIGURES = "0123456789"
MOST_FIGURES = 9
# The texts of these may have blanks of their own, so the count of words in a row is not fixed for them.
TEXT_DEEDS = ("write", "add")
DEED_WORDS = {"folder": 2, "drop": 2, "sweep": 2, "link": 3, "move": 3, "copy": 3}
NUMBER_ROWS = ("weld", "sink", "trim", "pane")
FINDING_ROWS = ("read", "list", "find")


def deed_of(words):
    """The deed that the words of a row tell, None where they tell none."""
    if words[0] in TEXT_DEEDS and len(words) >= 3:
        return (words[0], words[1], " ".join(words[2:]))
    if DEED_WORDS.get(words[0]) == len(words):
        return tuple(words)
    return None


def number_of(word):
    if not 1 <= len(word) <= MOST_FIGURES or not all([sign in FIGURES for sign in word]):
        raise NoRow(word)
    if word[0] == "0" and word != "0":
        raise NoRow(word)
    return int(word)


def sink_answer(glass, k):
    found = glass.sink(k)
    if found[1] is None:
        return str(found[0])
    return str(found[0]) + " " + shown_way(meeting_place(found[1]))


def number_answer(glass, word, k):
    if word == "sink":
        return sink_answer(glass, k)
    if word == "trim":
        return str(glass.trim(k))
    if word == "pane":
        return shown_pane(numbered(glass.panes(), k))
    glass.weld(k)
    return "ok"


def finding_answer(tree, word, text):
    way = find_way(tree, (), text)
    if word == "find":
        return shown_way(way)
    if word == "list":
        return " ".join(names_in(tree, way))
    thing = thing_at(tree, way)
    if thing[0] == "folder":
        raise IsFolder("a folder lies there")
    return thing[1]


class Desk:
    def __init__(self):
        self.glass = Glass([])

    def load(self, text):
        self.glass = Glass(self.glass.panes() + [read_pane(text)])

    def say(self, row):
        if row.startswith(LOAD):
            self.load(row[len(LOAD):])
            return "ok"
        words = row.split(" ")
        deed = deed_of(words)
        if deed is not None:
            self.glass.do(deed)
        elif words == ["lay"]:
            self.glass.lay()
        elif words == ["lift"]:
            self.glass.lift()
        elif len(words) == 2 and words[0] in NUMBER_ROWS:
            return number_answer(self.glass, words[0], number_of(words[1]))
        elif len(words) == 2 and words[0] in FINDING_ROWS:
            return finding_answer(self.glass.seen(), words[0], words[1])
        else:
            raise NoRow(row)
        return "ok"
