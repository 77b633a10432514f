"""Panes written as texts, and read back."""

from glasslayers.errors import NoRow, NoWay
from glasslayers.panes import is_pane
from glasslayers.words import read_way, shown_way

TEXT_MARKS = ("file", "link")


def shown_entry(way, mark, text):
    shown = shown_way(way)
    return f"{mark} {shown} {text}" if mark in TEXT_MARKS else f"{mark} {shown}"


def shown_pane(pane):
    return "\n".join([shown_entry(way, mark, text) for way, mark, text in pane])


def way_in_row(word):
    try:
        return read_way(word)
    except NoWay:
        raise NoRow(word) from None


def read_entry(row):
    # A file's text may have blanks of its own, so no more than two of them part the row.
    words = row.split(" ", 2)
    if len(words) != (3 if words[0] in TEXT_MARKS else 2):
        raise NoRow(row)
    return (way_in_row(words[1]), words[0], words[2] if len(words) == 3 else "")


def read_pane(text):
    if text == "":
        return []
    pane = [read_entry(row) for row in text.split("\n")]
    if not is_pane(pane):
        raise NoRow("the rows make no pane")
    return pane
