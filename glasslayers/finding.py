"""What a way text finds in a tree, its place, its goal and its trail."""

from glasslayers.errors import Astray, Missing, NoPlace, NotFolder
from glasslayers.names import is_name
from glasslayers.trees import things_of
from glasslayers.ways import above
from glasslayers.words import step, words_of

MOST_LINKS = 8


def start_of(rooted, at):
    return () if rooted else at


def one_more(followed):
    """The count of the links followed, with one more among them."""
    if followed == MOST_LINKS:
        raise Astray("too many links")
    return followed + 1


def walk(things, at, words, followed):
    """A tuple of the trail, the way that is come to, and the count of the links followed by then."""
    trail = []
    left = list(words)
    while left != []:
        word = left.pop(0)
        then = step(at, word)
        thing = things.get(then)
        if thing is None:
            raise Missing("nothing lies there")
        if thing[0] == "file" and left != []:
            raise NotFolder("a file lies ahead of the last word")
        if thing[0] == "link":
            followed = one_more(followed)
            led = words_of(thing[1])
            then = start_of(led[0], at)
            left = led[1] + left
        trail.append((at, word, then))
        at = then
    return (trail, at, followed)


def walked(tree, at, text):
    found = words_of(text)
    return walk(things_of(tree), start_of(found[0], at), found[1], 0)


def find_way(tree, at, text):
    return walked(tree, at, text)[1]


def trail_of(tree, at, text):
    return walked(tree, at, text)[0]


def placed(things, at, text, followed):
    """A tuple of the place and the count of the links followed by then."""
    found = words_of(text)
    words = found[1]
    if words == [] or not is_name(words[-1]):
        raise NoPlace("the last word is no name")
    come = walk(things, start_of(found[0], at), words[:-1], followed)
    if things[come[1]][0] != "folder":
        raise NotFolder("the words ahead of the last one lead to a file")
    return (come[1] + (words[-1],), come[2])


def place_of(tree, at, text):
    return placed(things_of(tree), at, text, 0)[0]


def goal_of(tree, at, text):
    things = things_of(tree)
    found = placed(things, at, text, 0)
    thing = things.get(found[0])
    while thing is not None and thing[0] == "link":
        found = placed(things, above(found[0]), thing[1], one_more(found[1]))
        thing = things.get(found[0])
    return found[0]
