"""Way texts: how a way is written, and the words that a way text has."""

from glasslayers.errors import NoWay
from glasslayers.names import is_name
from glasslayers.ways import above

MOST_WORDS = 40


def shown_way(way):
    return "/" + "/".join(way)


def is_word(text):
    return text in (".", "..") or is_name(text)


def words_of(text):
    if text == "/":
        return (True, [])
    rooted = text.startswith("/")
    words = (text[1:] if rooted else text).split("/")
    if len(words) > MOST_WORDS or not all([is_word(word) for word in words]):
        raise NoWay(text)
    return (rooted, words)


def read_way(text):
    found = words_of(text)
    if not found[0] or not all([is_name(word) for word in found[1]]):
        raise NoWay(text)
    return tuple(found[1])


def step(way, word):
    if word == ".":
        return way
    if word == "..":
        return above(way)
    return way + (word,)


def straight(way, words):
    for word in words:
        way = step(way, word)
    return way
