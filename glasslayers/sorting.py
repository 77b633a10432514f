"""Entries sorted out by the names in a folder, and names and ways brought into order."""


def sorted_out(entries, depth):
    """For each name at that depth of the entries' ways: its own entry and those under it, in their order.

    The entries are all that lie under a way of that many names, so the entry of a name stands ahead of those
    under it.
    """
    heaps = {}
    for entry in entries:
        heaps.setdefault(entry[0][depth], []).append(entry)
    return heaps


def keys_of(one, other):
    """The names or ways that one of two dicts has as keys, or both, each once and in their order."""
    return sorted(set(one) | set(other))
