"""Entries sorted out by the names in a folder, and these names brought into order."""


def sorted_out(entries, depth):
    """For each name at that depth of the entries' ways: its own entry and those under it, in their order.

    The entries are all that lie under a way of that many names, so the entry of a name stands ahead of those
    under it.
    """
    heaps = {}
    for entry in entries:
        heaps.setdefault(entry[0][depth], []).append(entry)
    return heaps


def names_of(one, other):
    """The names that one of two such dicts has, or both, each once and in their order."""
    return sorted(set(one) | set(other))
