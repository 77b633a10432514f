import itertools
import unittest

import model
from glasslayers.drawing import draw, trimmed
from glasslayers.laying import laid
from glasslayers.panes import is_pane
from samples import (
    FORTY, chain, deep_panes, file, folder, gone, link, panes_along, random_panes, random_trees, shut, small_trees,
    trees_along, wide_pane, wide_tree,
)

PANE_KINDS = [("file", "x"), ("file", "y"), ("folder", ""), ("gone", ""), ("shut", "")]
TREE_KINDS = [("file", "x"), ("file", "y"), ("folder", "")]
BROAD = [("a",), ("a", "a"), ("a", "b"), ("b",)]
DEEP = [("a",), ("a", "a"), ("a", "a", "a"), ("a", "a", "b")]


class DrawTest(unittest.TestCase):
    def check(self, one, other, wanted):
        kept = (list(one), list(other))
        told = draw(one, other)
        self.assertEqual(told, wanted)
        self.assertIs(is_pane(told), True)
        self.assertEqual(laid(told, one), other)
        self.assertEqual((one, other), kept)

    def test_alike(self):
        for tree in small_trees() + [[], wide_tree(), chain(40)]:
            self.assertEqual(draw(tree, list(tree)), [])

    def test_an_empty_tree(self):
        self.check([], [file("/a", "x")], [file("/a", "x")])
        tree = [folder("/a"), file("/a/b", "x"), link("/c", "a")]
        self.check([], tree, tree)
        self.check([file("/a", "x")], [], [gone("/a")])
        self.check([folder("/a"), file("/a/b")], [], [gone("/a")])
        self.check([file("/a"), file("/b")], [], [shut("/")])

    def test_a_thing_for_another(self):
        rest = [file("/x"), file("/y"), file("/z")]
        things = [file("/a", "1"), file("/a", "2"), link("/a", "1"), link("/a", "2"), folder("/a")]
        for one, other in itertools.permutations(things, 2):
            self.check([one] + rest, [other] + rest, [other])

    def test_a_file_for_a_folder_with_things_in_it(self):
        rest = [file("/x"), file("/y"), file("/z")]
        full = [folder("/a"), file("/a/b", "x"), folder("/a/c"), file("/a/c/d", "y")]
        for thing in (file("/a", "new"), link("/a", "x")):
            self.check(full + rest, [thing] + rest, [thing])
            self.check([thing] + rest, full + rest, full)
        self.check(full + rest, rest, [gone("/a")])
        self.check(rest, full + rest, full)

    def test_something_new_and_something_gone(self):
        rest = [file("/x"), file("/y"), file("/z")]
        self.check(rest, [file("/a")] + rest, [file("/a")])
        self.check([file("/a")] + rest, rest, [gone("/a")])
        one = [folder("/a"), file("/a/b"), file("/a/c"), file("/a/d"), file("/a/e")]
        self.check(one, one[:1] + one[2:], [folder("/a"), gone("/a/b")])
        self.check(one[:1] + one[2:], one, [folder("/a"), file("/a/b")])

    def test_folders_in_both(self):
        rest = [file("/w"), file("/x"), file("/y"), file("/z")]
        one = [folder("/a"), file("/a/b"), file("/a/c"), file("/a/d")]
        # A folder entry is cheaper.
        self.check(one + rest, one[:3] + [file("/a/d", "n")] + rest, [folder("/a"), file("/a/d", "n")])
        # A shut entry is cheaper.
        self.check(one + rest, [folder("/a")] + rest, [shut("/a")])
        self.check(one + rest, [folder("/a"), file("/a/b")] + rest, [shut("/a"), file("/a/b")])
        # As many entries: the first one.
        other = [folder("/a"), file("/a/b", "1"), file("/a/c", "2"), file("/a/d", "3")]
        self.check(one + rest, other + rest, other)
        self.check(one[:2] + rest, [folder("/a")] + rest, [shut("/a")])
        self.check(one[:3] + rest, one[:2] + rest, [folder("/a"), gone("/a/c")])

    def test_the_root(self):
        one = [file("/a"), file("/b"), file("/c")]
        self.check(one, [], [shut("/")])
        self.check(one, [file("/a")], [gone("/b"), gone("/c")])
        self.check(one, [file("/a", "n")], [shut("/"), file("/a", "n")])
        self.check(one[:1], [file("/a", "n")], [file("/a", "n")])
        self.check(one[:1], [], [gone("/a")])
        self.check(one[:2], [file("/a", "n")], [file("/a", "n"), gone("/b")])
        self.check(one, [file("/d")], [shut("/"), file("/d")])
        self.check(one, [file("/a", "n"), file("/b", "n"), file("/d")], [
            file("/a", "n"), file("/b", "n"), gone("/c"), file("/d")])

    def test_the_choice_below_changes_the_choice_above(self):
        # As the folder within is shut, to keep the folder about it takes two entries, not five; to shut it takes three.
        one = [folder("/a"), file("/a/a"), folder("/a/b"), file("/a/b/a"), file("/a/b/b"), file("/a/b/c")]
        rest = [file("/v"), file("/w"), file("/x"), file("/y"), file("/z")]
        self.check(one + rest, one[:3] + rest, [folder("/a"), shut("/a/b")])
        # Three folders in one another, the innermost emptied: the root stays as it is.
        deep = [folder("/a"), folder("/a/a"), folder("/a/a/a")] + [file(f"/a/a/a/f{count}") for count in range(5)]
        self.check(deep + rest, deep[:3] + rest, [folder("/a"), folder("/a/a"), shut("/a/a/a")])
        # All within is shut off one folder further up, where that leaves less to write.
        one = [folder("/a"), file("/a/a"), file("/a/b"), folder("/a/c"), file("/a/c/a"), file("/a/c/b")]
        self.check(one + rest, [folder("/a"), folder("/a/c")] + rest, [shut("/a"), folder("/a/c")])

    def test_names_that_begin_alike(self):
        one = [folder("/a"), file("/a/b"), folder("/ab"), file("/ab/b"), file("/b")]
        self.check(one, one[2:], [gone("/a")])
        self.check(one, one[:2] + one[4:], [gone("/ab")])
        self.check(one, one[:3] + [file("/ab/b", "n")] + one[4:], [folder("/ab"), file("/ab/b", "n")])

    def test_no_pane_with_fewer_entries_shows_the_other_tree(self):
        for ways in (BROAD, DEEP):
            panes = sorted(panes_along([()] + ways, PANE_KINDS), key=len)
            trees = trees_along(ways, TREE_KINDS)
            for one in trees:
                fewest = {}
                for pane in panes:
                    fewest.setdefault(tuple(model.laid(pane, one)), len(pane))
                for other in trees:
                    told = draw(one, other)
                    self.assertEqual(model.laid(told, one), other)
                    self.assertEqual(len(told), fewest[tuple(other)], (one, other))

    def test_small_trees_against_the_words_of_the_document(self):
        for trees in (trees_along(BROAD, TREE_KINDS), trees_along(DEEP, TREE_KINDS), small_trees()):
            for one, other in itertools.product(trees, trees):
                self.assertEqual(draw(one, other), model.draw(one, other), (one, other))

    def test_many_trees(self):
        trees = random_trees(61, 60, turns=16) + random_trees(62, 20, turns=40, deep=6)
        for one, other in itertools.product(trees, trees):
            told = draw(one, other)
            self.assertIs(is_pane(told), True)
            self.assertEqual(laid(told, one), other)
            self.assertEqual(told, model.draw(one, other))
            self.assertLessEqual(len(told), len(other) + 1)

    def test_trees_a_little_apart(self):
        for tree in random_trees(63, 40, turns=30, deep=5):
            for number, (way, mark, text) in enumerate(tree):
                other = [entry for entry in tree if entry[0][:len(way)] != way]
                self.check(tree, other, model.draw(tree, other))
                self.check(other, tree, model.draw(other, tree))
                if mark == "file":
                    other = tree[:number] + [(way, "file", text + "n")] + tree[number + 1:]
                    self.check(tree, other, model.draw(tree, other))

    def test_great_trees(self):
        self.check(wide_tree(), wide_tree()[:-1], chain(39) + [(FORTY[:39] + ("w359",), "gone", "")])
        self.check(wide_tree(), chain(40), chain(38) + [(FORTY[:39], "shut", ""), (FORTY, "folder", "")])
        self.check(wide_tree(), chain(39), chain(39, "shut"))
        self.check(chain(40), chain(40, "file"), chain(40, "file"))
        self.check([], wide_tree(), wide_tree())
        self.check(wide_tree(), [], [(FORTY[:1], "gone", "")])
        flat = [file(f"/f{number:03}", "x") for number in range(400)]
        self.check(flat, [], [shut("/")])
        self.check(flat, flat[:200], [gone(f"/f{number:03}") for number in range(200, 400)])
        self.check(flat, flat[:199], [shut("/")] + flat[:199])
        self.check(flat, wide_tree(), [shut("/")] + wide_tree())

    def test_lists(self):
        one, other = [folder("/a"), file("/a/b")], [folder("/a"), file("/a/c"), file("/d")]
        for first, second in ((one, other), (other, one), ([], one), (one, [])):
            told = draw(first, second)
            kept = list(told)
            self.assertIsNot(told, second)
            told.append("x")
            self.assertEqual(draw(first, second), kept)
        self.assertEqual(one, [folder("/a"), file("/a/b")])
        self.assertEqual(other, [folder("/a"), file("/a/c"), file("/d")])

    def test_arguments(self):
        self.assertEqual(draw(other=[], one=[file("/a")]), [gone("/a")])


class TrimmedTest(unittest.TestCase):
    def check(self, pane, tree):
        kept = (list(pane), list(tree))
        told = trimmed(pane, tree)
        self.assertIs(is_pane(told), True)
        self.assertEqual(laid(told, tree), laid(pane, tree))
        self.assertEqual(told, model.draw(tree, model.laid(pane, tree)))
        self.assertLessEqual(len(told), len(pane))
        self.assertEqual(trimmed(told, tree), told)
        self.assertEqual((pane, tree), kept)

    def test_ordinary_panes(self):
        tree = [folder("/a"), file("/a/b", "x"), file("/c", "y")]
        self.assertEqual(trimmed([], tree), [])
        self.assertEqual(trimmed(tree, tree), [])
        self.assertEqual(trimmed([gone("/z")], tree), [])
        self.assertEqual(trimmed([folder("/a"), file("/a/b", "x"), gone("/c")], tree), [gone("/c")])
        self.assertEqual(trimmed([shut("/a"), file("/a/b", "x")], tree), [])
        self.assertEqual(trimmed([shut("/z")], tree), [folder("/z")])
        self.assertEqual(trimmed([shut("/")] + tree, tree), [])
        self.assertEqual(trimmed([shut("/")], tree), [shut("/")])
        self.assertEqual(trimmed([shut("/")], []), [])

    def test_small_panes(self):
        for pane, tree in itertools.product(deep_panes(), trees_along(DEEP, TREE_KINDS)):
            self.check(pane, tree)

    def test_many_panes(self):
        for pane, tree in itertools.product(random_panes(64, 50, turns=14), random_trees(65, 25, turns=14)):
            self.check(pane, tree)

    def test_great_panes(self):
        self.check(wide_pane(), wide_tree())
        self.check(wide_tree(), wide_tree())
        self.check(wide_pane(), [])
        self.check([shut("/")] + wide_tree()[:399], wide_tree())

    def test_lists(self):
        pane, tree = [gone("/a")], [file("/a"), file("/b")]
        told = trimmed(pane, tree)
        told.append("x")
        self.assertEqual((pane, tree), ([gone("/a")], [file("/a"), file("/b")]))
        self.assertEqual(trimmed(pane, tree), [gone("/a")])
        self.assertIsNot(trimmed(pane, tree), pane)

    def test_arguments(self):
        self.assertEqual(trimmed(tree=[file("/a")], pane=[gone("/a")]), [gone("/a")])


if __name__ == "__main__":
    unittest.main()
