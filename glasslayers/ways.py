"""Ways: tuples of names, from the root down.

They come in the order in which Python sorts tuples of texts, so no order of
their own is written here.
"""


def above(way):
    return way[:-1]


def lies_under(way, other):
    return len(way) > len(other) and way[:len(other)] == other


def leads(way):
    return [way[:count] for count in range(1, len(way))]


def shifted(way, old, new):
    if way == old or lies_under(way, old):
        return new + way[len(old):]
    return way
