import itertools
import unittest

import model
from glasslayers.laying import laid, seen
from glasslayers.trees import is_tree
from samples import (
    FORTY, chain, deep_panes, file, folder, gone, link, random_panes, random_trees, shut, small_trees, trees_along,
    wide_pane, wide_tree,
)

TREE = [
    folder("/a"), folder("/a/b"), file("/a/b/c", "text"), file("/a/c", "z"), folder("/ab"), file("/ab/b", "x"),
    file("/b", "one"), link("/c", "a/b"),
]
DEEP_TREES = trees_along([("a",), ("a", "a"), ("a", "a", "a"), ("a", "a", "a", "a")])


class LaidTest(unittest.TestCase):
    def test_over_nothing(self):
        self.assertEqual(laid([file("/z", "x")], TREE), TREE + [file("/z", "x")])
        self.assertEqual(laid([link("/z", "a")], TREE), TREE + [link("/z", "a")])
        self.assertEqual(laid([folder("/z")], TREE), TREE + [folder("/z")])
        self.assertEqual(laid([shut("/z")], TREE), TREE + [folder("/z")])
        self.assertEqual(laid([gone("/z")], TREE), TREE)

    def test_over_a_file(self):
        ahead, behind = TREE[:6], TREE[7:]
        self.assertEqual(laid([file("/b", "new")], TREE), ahead + [file("/b", "new")] + behind)
        self.assertEqual(laid([link("/b", "a")], TREE), ahead + [link("/b", "a")] + behind)
        self.assertEqual(laid([folder("/b")], TREE), ahead + [folder("/b")] + behind)
        self.assertEqual(laid([shut("/b")], TREE), ahead + [folder("/b")] + behind)
        self.assertEqual(laid([gone("/b")], TREE), ahead + behind)

    def test_over_a_link(self):
        ahead = TREE[:7]
        self.assertEqual(laid([file("/c", "new")], TREE), ahead + [file("/c", "new")])
        self.assertEqual(laid([link("/c", "a")], TREE), ahead + [link("/c", "a")])
        self.assertEqual(laid([folder("/c")], TREE), ahead + [folder("/c")])
        self.assertEqual(laid([shut("/c")], TREE), ahead + [folder("/c")])
        self.assertEqual(laid([gone("/c")], TREE), ahead)

    def test_over_a_folder(self):
        behind = TREE[4:]
        self.assertEqual(laid([file("/a", "new")], TREE), [file("/a", "new")] + behind)
        self.assertEqual(laid([link("/a", "c")], TREE), [link("/a", "c")] + behind)
        self.assertEqual(laid([folder("/a")], TREE), TREE)
        self.assertEqual(laid([shut("/a")], TREE), [folder("/a")] + behind)
        self.assertEqual(laid([gone("/a")], TREE), behind)

    def test_what_stands_under_them(self):
        self.assertEqual(laid([folder("/a"), file("/a/a", "x")], TREE), TREE[:1] + [file("/a/a", "x")] + TREE[1:])
        self.assertEqual(laid([folder("/a"), gone("/a/b")], TREE), TREE[:1] + TREE[3:])
        self.assertEqual(laid([folder("/a"), shut("/a/b")], TREE), TREE[:2] + TREE[3:])
        self.assertEqual(laid([shut("/a"), file("/a/c", "n")], TREE), [folder("/a"), file("/a/c", "n")] + TREE[4:])
        self.assertEqual(
            laid([shut("/a"), folder("/a/b"), file("/a/b/d", "n")], TREE),
            [folder("/a"), folder("/a/b"), file("/a/b/d", "n")] + TREE[4:])
        self.assertEqual(
            laid([folder("/b"), file("/b/x", "n")], TREE),
            TREE[:6] + [folder("/b"), file("/b/x", "n")] + TREE[7:])

    def test_the_roots_shut(self):
        self.assertEqual(laid([shut("/")], TREE), [])
        self.assertEqual(laid([shut("/")], []), [])
        self.assertEqual(laid([shut("/"), file("/b", "x")], TREE), [file("/b", "x")])
        self.assertEqual(
            laid([shut("/"), folder("/a"), folder("/a/b")], TREE), [folder("/a"), folder("/a/b")])

    def test_the_tree_without_entries(self):
        pane = [folder("/a"), gone("/a/b"), shut("/a/c"), file("/a/c/d", "x"), gone("/b"), link("/c", "a")]
        self.assertEqual(
            laid(pane, []), [folder("/a"), folder("/a/c"), file("/a/c/d", "x"), link("/c", "a")])

    def test_the_pane_without_entries(self):
        for tree in small_trees() + [TREE, wide_tree()]:
            self.assertEqual(laid([], tree), tree)

    def test_a_tree_laid_over_the_root_shut_off_is_itself(self):
        for tree in small_trees():
            self.assertEqual(laid([shut("/")] + tree, TREE), tree)

    def test_small_panes_over_small_trees_against_the_words_of_the_document(self):
        for pane, tree in itertools.product(deep_panes(), DEEP_TREES):
            self.assertEqual(laid(pane, tree), model.laid(pane, tree), (pane, tree))

    def test_many_panes_over_many_trees(self):
        panes, trees = random_panes(21, 60, turns=12), random_trees(22, 30, turns=14)
        for pane, tree in itertools.product(panes, trees):
            told = laid(pane, tree)
            self.assertIs(is_tree(told), True)
            self.assertEqual(told, model.laid(pane, tree))
            self.assertEqual(laid(pane, told), told)

    def test_great_panes_and_trees(self):
        told = laid(wide_pane(), wide_tree())
        self.assertEqual(told, model.laid(wide_pane(), wide_tree()))
        self.assertEqual(laid(chain(40, "gone"), wide_tree()), [
            entry for entry in wide_tree() if entry[0] != FORTY])
        self.assertEqual(laid(chain(20, "shut"), wide_tree()), chain(20))
        self.assertEqual(laid(wide_tree(), chain(40, "file")), wide_tree())

    def test_lists(self):
        pane, tree = [folder("/a"), gone("/a/b")], list(TREE)
        told = laid(pane, tree)
        kept = list(told)
        told.append("x")
        self.assertEqual((pane, tree), ([folder("/a"), gone("/a/b")], TREE))
        self.assertEqual(laid(pane, tree), kept)
        for pane in ([], [gone("/zz")]):
            self.assertIsNot(laid(pane, tree), tree)
        self.assertIsNot(laid(tree, []), tree)

    def test_arguments(self):
        self.assertEqual(laid(tree=TREE, pane=[gone("/a")]), TREE[4:])


class SeenTest(unittest.TestCase):
    def test_no_panes(self):
        self.assertEqual(seen([]), [])
        self.assertEqual(seen([[]]), [])
        self.assertEqual(seen([[], [], []]), [])

    def test_one_pane(self):
        self.assertEqual(seen([TREE]), TREE)
        self.assertEqual(seen([[gone("/a"), shut("/b")]]), [folder("/b")])

    def test_the_last_one_lies_on_top(self):
        self.assertEqual(seen([[file("/a", "x")], [file("/a", "y")]]), [file("/a", "y")])
        self.assertEqual(seen([[file("/a", "x")], [gone("/a")]]), [])
        self.assertEqual(seen([[gone("/a")], [file("/a", "x")]]), [file("/a", "x")])
        self.assertEqual(seen([TREE, [shut("/")], [file("/z")]]), [file("/z")])

    def test_several(self):
        panes = [TREE, [folder("/a"), gone("/a/b")], [folder("/a"), folder("/a/b"), file("/a/b/d", "x")]]
        self.assertEqual(seen(panes), [
            folder("/a"), folder("/a/b"), file("/a/b/d", "x"), file("/a/c", "z")] + TREE[4:])

    def test_many_lists_against_the_words_of_the_document(self):
        panes = random_panes(23, 300, turns=10)
        for number in range(0, 290, 3):
            some = panes[number:number + number % 7]
            told = seen(some)
            self.assertIs(is_tree(told), True)
            self.assertEqual(told, model.seen(some))

    def test_a_hundred_panes(self):
        panes = [[file(f"/f{number:02}", "x"), gone(f"/f{number + 1:02}")] for number in range(99, -1, -1)]
        panes = [[entry for entry in sorted(pane) if len(entry[0][0]) == 3] for pane in panes]
        self.assertEqual(seen(panes), [file("/f00", "x")])
        self.assertEqual(seen([wide_tree()] * 50 + [wide_pane()] * 50), model.laid(wide_pane(), wide_tree()))

    def test_lists(self):
        panes = [list(TREE), [gone("/a")]]
        kept = [list(pane) for pane in panes]
        first = seen(panes)
        told = list(first)
        self.assertEqual(panes, kept)
        second = seen(panes)
        second.append("x")
        panes[1].append(gone("/b"))
        self.assertNotEqual(seen(panes), told)
        panes.clear()
        self.assertEqual(first, told)
        one = [list(TREE)]
        self.assertIsNot(seen(one), one[0])

    def test_argument(self):
        self.assertEqual(seen(panes=[TREE]), TREE)


if __name__ == "__main__":
    unittest.main()
