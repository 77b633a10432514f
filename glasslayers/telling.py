"""Two unlike panes told apart: a tree over which they show unlike trees."""

from glasslayers.laying import laid
from glasslayers.ways import leads


def first_unlike(one, other):
    """The first way at which two unlike panes have not the same entry."""
    return sorted(set(one) ^ set(other))[0][0]


def free_name(entries, way):
    """A name that, put behind the way, makes a way that none of the entries has."""
    taken = [entry[0] for entry in entries]
    number = 0
    while way + (str(number),) in taken:
        number += 1
    return str(number)


def unlike(one, other):
    if one == other:
        return None
    if laid(one, []) != laid(other, []):
        return []
    # At the first unlike way the two can only be: no entry and `gone`, `folder` and `shut`, or, at the root,
    # no entry and `shut`; and all that stands above is `folder` in both. So one of them shows the tree's folder
    # there with all that is in it, and the other one does not.
    way = first_unlike(one, other)
    last = way + (free_name(one + other, way),)
    return [(lead, "folder", "") for lead in leads(last)] + [(last, "file", "")]
