import itertools
import unittest

import model
from glasslayers.telling import unlike
from glasslayers.trees import is_tree
from samples import (
    FORTY, chain, deep_panes, file, folder, gone, link, panes_along, random_panes, shut, small_trees, wide_pane,
    wide_tree,
)


class UnlikeTest(unittest.TestCase):
    def assert_told(self, one, other):
        kept = (list(one), list(other))
        longest = max([len(entry[0]) for entry in one + other])
        for first, second in ((one, other), (other, one)):
            tree = unlike(first, second)
            self.assertIs(type(tree), list)
            self.assertIs(is_tree(tree), True)
            self.assertLessEqual(len(tree), 42)
            self.assertLessEqual(max([len(entry[0]) for entry in tree], default=0), longest + 1)
            self.assertNotEqual(model.laid(first, tree), model.laid(second, tree), (first[:5], second[:5], tree))
        self.assertEqual((one, other), kept)

    def test_alike(self):
        for pane in deep_panes() + small_trees() + [[], [shut("/")], wide_pane(), wide_tree()]:
            self.assertIsNone(unlike(pane, list(pane)))

    def test_one_entrys_mark(self):
        kinds = [file("/a", "x"), link("/a", "x"), folder("/a"), gone("/a"), shut("/a")]
        for one, other in itertools.combinations(kinds, 2):
            self.assert_told([one], [other])
            self.assert_told([one, file("/b")], [other, file("/b")])
            deep = [(("b", "c", "a"), entry[1], entry[2]) for entry in (one, other)]
            self.assert_told([folder("/b"), folder("/b/c"), deep[0]], [folder("/b"), folder("/b/c"), deep[1]])

    def test_texts(self):
        self.assert_told([file("/a", "x")], [file("/a", "y")])
        self.assert_told([file("/a", "x")], [file("/a", "x ")])
        self.assert_told([file("/a", "")], [file("/a", " ")])
        self.assert_told([link("/a", "b")], [link("/a", "./b")])

    def test_one_entry_more(self):
        for entry in (file("/a", ""), link("/a", "x"), folder("/a"), gone("/a"), shut("/a"), shut("/")):
            self.assert_told([], [entry])
            self.assert_told([file("/b")], [entry, file("/b")])
        for entry in (file("/a/b", ""), link("/a/b", "x"), folder("/a/b"), gone("/a/b"), shut("/a/b")):
            self.assert_told([folder("/a")], [folder("/a"), entry])
            self.assert_told([folder("/a"), gone("/a/c")], [folder("/a"), entry, gone("/a/c")])

    def test_the_roots_shut(self):
        for pane in ([], [file("/a")], [folder("/a"), file("/a/b")], wide_tree()[:200], chain(40)):
            self.assert_told([shut("/")] + pane, pane)
        names = sorted([str(number) for number in range(399)])
        many = [((name,), "file", "") for name in names]
        self.assert_told([shut("/")] + many, many)

    def test_under_a_shut_entry(self):
        self.assert_told([shut("/a")], [shut("/a"), file("/a/b")])
        self.assert_told([shut("/a")], [shut("/a"), folder("/a/b")])
        self.assert_told([shut("/a"), folder("/a/b")], [shut("/a"), file("/a/b")])
        self.assert_told([shut("/a"), folder("/a/b")], [shut("/a"), folder("/a/b"), folder("/a/b/c")])
        self.assert_told([shut("/"), folder("/a")], [shut("/"), folder("/a"), link("/a/b", "c")])

    def test_folder_and_shut_with_many_names_taken(self):
        names = sorted([str(number) for number in range(399)])
        many = [(("a", name), "file", "") for name in names]
        self.assert_told([folder("/a")] + many, [shut("/a")] + many)

    def test_small_panes(self):
        panes = deep_panes() + panes_along([(), ("a",), ("ab",), ("b",)])[::7]
        for one, other in itertools.combinations(panes, 2):
            if one != other:
                tree = unlike(one, other)
                self.assertNotEqual(model.laid(one, tree), model.laid(other, tree))

    def test_many_panes(self):
        panes = random_panes(51, 80, turns=10)
        for one, other in itertools.combinations(panes, 2):
            if one == other:
                self.assertIsNone(unlike(one, other))
            else:
                self.assert_told(one, other)

    def test_forty_names(self):
        lasts = ["file", "folder", "gone", "shut"]
        for one, other in itertools.combinations(lasts, 2):
            self.assert_told(chain(40, one), chain(40, other))
        for last in lasts:
            self.assert_told(chain(39), chain(40, last))
        self.assert_told(chain(40, "gone"), chain(39, "shut"))
        self.assert_told(chain(40), chain(20, "shut") + chain(40)[20:])
        self.assertEqual(len(FORTY), 40)

    def test_great_panes(self):
        self.assert_told(wide_pane(), wide_tree())
        for number in (39, 40, 41, 42, 397, 398, 399):
            other = wide_pane()
            way, mark, text = other[number]
            other[number] = (way, "shut" if mark == "folder" else "folder", "")
            self.assert_told(wide_pane(), other)
        for count in (1, 20, 39):
            self.assert_told(wide_tree(), chain(count, "shut") + wide_tree()[count:])
        self.assert_told(wide_pane(), wide_pane()[:-1])

    def test_a_told_list_is_the_askers_own(self):
        for one, other in (([], [file("/a")]), ([], [gone("/a")]), ([folder("/a")], [shut("/a")])):
            told = unlike(one, other)
            kept = list(told)
            told.append("x")
            self.assertEqual(unlike(one, other), kept)

    def test_arguments(self):
        self.assertIsNone(unlike(other=[], one=[]))


if __name__ == "__main__":
    unittest.main()
