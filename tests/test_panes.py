import itertools
import unittest

from glasslayers.panes import is_pane
from samples import (
    chain, deep_panes, file, folder, gone, link, random_panes, random_trees, shut, small_trees, wide_pane, wide_tree,
)

PANE = [
    folder("/a"), gone("/a/a"), folder("/a/b"), file("/a/b/c", "text"), shut("/a/d"), folder("/a/d/e"),
    link("/a/d/e/f", ".."), file("/ab", "one two "), gone("/b"), shut("/c"),
]


def pane_by_words(entries):
    """What a pane is, read off the document's words for entries that are written rightly."""
    ways = [entry[0] for entry in entries]
    marks = {entry[0]: entry[1] for entry in entries}
    for way, mark, text in entries:
        if way == () and mark != "shut":
            return False
        if len(way) >= 2 and marks.get(way[:-1]) not in ("folder", "shut"):
            return False
        if any(marks.get(way[:count]) == "shut" for count in range(len(way))) and mark in ("gone", "shut"):
            return False
    return ways == sorted(set(ways))


class IsPaneTest(unittest.TestCase):
    def assert_pane(self, entries):
        kept = list(entries)
        self.assertIs(is_pane(entries), True, entries[:5])
        self.assertEqual(entries, kept)

    def assert_no_pane(self, entries):
        kept = list(entries)
        self.assertIs(is_pane(entries), False, entries[:5])
        self.assertEqual(entries, kept)

    def test_ordinary_panes(self):
        self.assert_pane([])
        self.assert_pane(PANE)
        for entry in (file("/a", "x"), link("/a", "/"), folder("/a"), gone("/a"), shut("/a")):
            self.assert_pane([entry])
        for pane in deep_panes() + random_panes(11, 100, turns=20):
            self.assert_pane(pane)

    def test_each_tree_is_one(self):
        for tree in small_trees() + random_trees(12, 50, turns=20) + [wide_tree(), chain(40)]:
            self.assert_pane(tree)

    def test_great_panes(self):
        self.assertEqual(len(wide_pane()), 400)
        self.assert_pane(wide_pane())
        self.assert_pane([shut("/")] + chain(40))
        for count in range(1, 40):
            self.assert_pane(chain(count, "shut") + chain(40)[count:])
            self.assert_no_pane(chain(count, "shut") + chain(40, "gone")[count:])
            self.assert_no_pane(chain(count, "shut") + chain(40, "shut")[count:])
            self.assert_no_pane(chain(count, "gone") + chain(40)[count:])

    def test_the_root(self):
        self.assert_pane([shut("/")])
        self.assert_pane([shut("/"), file("/a", "x"), folder("/b"), link("/b/c", "a")])
        for mark in ("file", "folder", "gone", "", "Shut"):
            self.assert_no_pane([((), mark, "")])
            self.assert_no_pane([((), mark, ""), file("/a")])
        self.assert_no_pane([((), "link", "/")])
        self.assert_no_pane([((), "shut", "x")])
        self.assert_no_pane([shut("/"), shut("/")])
        self.assert_no_pane([file("/a"), shut("/")])

    def test_nothing_above(self):
        for entry in (file("/a/b"), folder("/a/b"), gone("/a/b"), shut("/a/b"), link("/a/b", "c")):
            self.assert_no_pane([entry])
            self.assert_no_pane([shut("/"), entry])
            self.assert_no_pane([entry, folder("/b")])
        self.assert_no_pane([folder("/a"), file("/a/b/c")])
        self.assert_no_pane([folder("/a"), file("/ab/c")])

    def test_what_stands_above(self):
        for entry in (file("/a/b"), folder("/a/b"), gone("/a/b"), shut("/a/b"), link("/a/b", "c")):
            self.assert_no_pane([file("/a"), entry])
            self.assert_no_pane([link("/a", "/c"), entry])
            self.assert_no_pane([gone("/a"), entry])
            self.assert_pane([folder("/a"), entry])
        for entry in (file("/a/b"), folder("/a/b"), link("/a/b", "c")):
            self.assert_pane([shut("/a"), entry])

    def test_under_shut(self):
        for mark in ("gone", "shut"):
            self.assert_no_pane([shut("/a"), (("a", "b"), mark, "")])
            self.assert_no_pane([shut("/a"), folder("/a/b"), (("a", "b", "c"), mark, "")])
            self.assert_no_pane([shut("/a"), folder("/a/b"), folder("/a/b/c"), (("a", "b", "c", "d"), mark, "")])
            self.assert_no_pane([folder("/a"), shut("/a/b"), folder("/a/b/c"), (("a", "b", "c", "d"), mark, "")])
            self.assert_no_pane([shut("/"), (("a",), mark, "")])
            self.assert_no_pane([shut("/"), folder("/a"), (("a", "b"), mark, "")])
            self.assert_no_pane([shut("/"), file("/a"), folder("/b"), folder("/b/a"), (("b", "a", "a"), mark, "")])

    def test_beside_shut(self):
        for mark in ("gone", "shut"):
            self.assert_pane([shut("/a"), (("ab",), mark, "")])
            self.assert_pane([shut("/a"), folder("/ab"), (("ab", "b"), mark, "")])
            self.assert_pane([folder("/a"), shut("/a/b"), (("a", "c"), mark, "")])

    def test_order_and_a_way_twice(self):
        self.assert_no_pane([gone("/b"), gone("/a")])
        self.assert_no_pane([file("/a/b"), folder("/a")])
        self.assert_no_pane([folder("/a"), gone("/ab"), gone("/a/b")])
        self.assert_no_pane([gone("/a"), gone("/a")])
        self.assert_no_pane([folder("/a"), shut("/a")])
        self.assert_no_pane([gone("/a"), file("/a")])
        for number in range(len(PANE) - 1):
            self.assert_no_pane(PANE[:number] + [PANE[number + 1], PANE[number]] + PANE[number + 2:])
            self.assert_no_pane(PANE[:number + 1] + PANE[number:])

    def test_marks_texts_and_names(self):
        for mark in ("", "File", "Gone", "SHUT", "gone ", "opaque", "folders"):
            self.assert_no_pane([(("a",), mark, "")])
        for mark in ("folder", "gone", "shut"):
            for text in ("x", " ", "/"):
                self.assert_no_pane([(("a",), mark, text)])
        for text in ("", "a/", "//", "...", "A", "/".join(["a"] * 41)):
            self.assert_no_pane([link("/a", text)])
        for name in ("", "A", "a b", ".", "..", "a/b", "a" * 13):
            for mark in ("file", "folder", "gone", "shut"):
                self.assert_no_pane([((name,), mark, "")])
                self.assert_no_pane([folder("/a"), (("a", name), mark, "")])

    def test_small_lists_against_the_words_of_the_document(self):
        pool = [
            shut("/"), gone("/"), folder("/a"), shut("/a"), file("/a"), gone("/a"), folder("/a/b"), gone("/a/b"),
            shut("/a/b"), link("/a/b/c", "."), gone("/a/b/c"), shut("/ab"),
        ]
        for count in range(5):
            for entries in itertools.product(pool, repeat=count):
                self.assertIs(is_pane(list(entries)), pane_by_words(entries), entries)

    def test_argument(self):
        self.assertIs(is_pane(entries=[((), "shut", "")]), True)


if __name__ == "__main__":
    unittest.main()
