"""Entries: the tuples (way, mark, text) that trees and panes are lists of."""

from glasslayers.errors import NoWay
from glasslayers.names import is_name
from glasslayers.words import words_of

BARE_MARKS = ("folder", "gone", "shut")


def is_way_text(text):
    try:
        words_of(text)
    except NoWay:
        return False
    return True


def fits(mark, text):
    """Whether an entry with that mark may have that text."""
    if mark == "file":
        return True
    if mark == "link":
        return is_way_text(text)
    return mark in BARE_MARKS and text == ""


def is_entry(way, mark, text):
    return all([is_name(name) for name in way]) and fits(mark, text)


def are_entries(entries):
    """Whether all are entries, in the order of their ways, no way twice."""
    rising = all([one[0] < other[0] for one, other in zip(entries, entries[1:])])
    return rising and all([is_entry(way, mark, text) for way, mark, text in entries])


def in_order(entries):
    # No way stands twice among them, so marks and texts are never compared.
    return sorted(entries)


def by_way(entries):
    found = {}
    for entry in entries:
        found[entry[0]] = entry
    return found
