import unittest

from glasslayers.parts import grafted, part, without
from glasslayers.trees import is_tree, thing_at
from glasslayers.ways import lies_under
from samples import FORTY, chain, file, folder, link, random_trees, small_trees, wide_tree

TREE = [
    folder("/a"), folder("/a/b"), file("/a/b/c", "text"), file("/a/c", "z"), folder("/ab"), file("/ab/b", "x"),
    file("/abc", "one"), link("/b", "a/b"), folder("/c"),
]
TREES = small_trees() + random_trees(3, 60, turns=14) + [TREE]
WAYS = [(), ("a",), ("ab",), ("b",), ("a", "b"), ("ab", "b"), ("a", "a", "ab"), ("a", "b", "a"), ("0",)]


class PartTest(unittest.TestCase):
    def test_at_the_root(self):
        self.assertEqual(part(TREE, ()), TREE)
        self.assertEqual(part([], ()), [])

    def test_at_a_folder(self):
        self.assertEqual(part(TREE, ("a",)), [folder("/b"), file("/b/c", "text"), file("/c", "z")])
        self.assertEqual(part(TREE, ("a", "b")), [file("/c", "text")])
        self.assertEqual(part(TREE, ("ab",)), [file("/b", "x")])
        self.assertEqual(part(TREE, ("c",)), [])

    def test_at_a_file_a_link_and_nothing(self):
        for way in (("abc",), ("b",), ("a", "c"), ("x",), ("a", "x"), ("abc", "x"), ("a", "b", "c", "d"), FORTY):
            self.assertEqual(part(TREE, way), [])
        self.assertEqual(part([], ("a",)), [])

    def test_great_trees(self):
        self.assertEqual(part(wide_tree(), FORTY[:39])[1:], [
            file(f"/w{number:03}", f"text {number}") for number in range(360)
        ])
        self.assertEqual(len(part(wide_tree(), FORTY[:1])), 399)
        self.assertEqual(part(wide_tree(), FORTY), [])

    def test_each_way_of_many_trees(self):
        for tree in TREES:
            for way in WAYS + [entry[0] for entry in tree]:
                told = part(tree, way)
                self.assertIs(is_tree(told), True)
                self.assertEqual(
                    [(way + under, mark, text) for under, mark, text in told],
                    [entry for entry in tree if lies_under(entry[0], way)])

    def test_lists(self):
        tree = list(TREE)
        told = part(tree, ())
        self.assertIsNot(told, tree)
        told.clear()
        self.assertEqual(tree, TREE)
        part(tree, ("a",)).clear()
        self.assertEqual(len(part(tree, ("a",))), 3)

    def test_arguments(self):
        self.assertEqual(part(way=("ab",), tree=TREE), [file("/b", "x")])


class WithoutTest(unittest.TestCase):
    def test_at_the_root(self):
        self.assertEqual(without(TREE, ()), [])
        self.assertEqual(without([], ()), [])

    def test_at_a_folder(self):
        self.assertEqual(without(TREE, ("a",)), TREE[4:])
        self.assertEqual(without(TREE, ("ab",)), TREE[:4] + TREE[6:])
        self.assertEqual(without(TREE, ("a", "b")), TREE[:1] + TREE[3:])
        self.assertEqual(without(TREE, ("c",)), TREE[:-1])

    def test_at_a_file_and_a_link(self):
        self.assertEqual(without(TREE, ("abc",)), TREE[:6] + TREE[7:])
        self.assertEqual(without(TREE, ("b",)), TREE[:7] + TREE[8:])
        self.assertEqual(without(TREE, ("a", "b", "c")), TREE[:2] + TREE[3:])

    def test_at_nothing(self):
        for way in (("x",), ("a", "x"), ("abc", "x"), ("a", "b", "c", "d"), ("abcd",), FORTY):
            self.assertEqual(without(TREE, way), TREE)
        self.assertEqual(without([], ("a",)), [])

    def test_great_trees(self):
        self.assertEqual(without(wide_tree(), FORTY[:39]), chain(38))
        self.assertEqual(without(wide_tree(), FORTY[:1]), [])
        self.assertEqual(len(without(wide_tree(), FORTY)), 399)

    def test_each_way_of_many_trees(self):
        for tree in TREES:
            for way in WAYS + [entry[0] for entry in tree]:
                told = without(tree, way)
                self.assertIs(is_tree(told), True)
                for entry in tree:
                    self.assertIs(entry in told, entry[0] != way and not lies_under(entry[0], way))
                self.assertEqual([entry for entry in told if entry not in tree], [])

    def test_lists(self):
        tree = list(TREE)
        for way in ((), ("x",), ("a",)):
            told = without(tree, way)
            kept = list(told)
            told.append("x")
            self.assertEqual(without(tree, way), kept)
            self.assertEqual(tree, TREE)

    def test_arguments(self):
        self.assertEqual(without(way=("a",), tree=TREE), TREE[4:])


class GraftedTest(unittest.TestCase):
    def test_where_nothing_lay(self):
        self.assertEqual(grafted([], ("a",), ("file", "x"), []), [file("/a", "x")])
        self.assertEqual(grafted([], ("a",), ("link", ".."), []), [link("/a", "..")])
        self.assertEqual(grafted([], ("a",), ("folder", ""), []), [folder("/a")])
        self.assertEqual(grafted(TREE, ("aa",), ("file", ""), []), TREE[:4] + [file("/aa")] + TREE[4:])
        self.assertEqual(grafted(TREE, ("a", "a"), ("file", ""), []), TREE[:1] + [file("/a/a")] + TREE[1:])
        self.assertEqual(grafted(TREE, ("z",), ("link", "/"), []), TREE + [link("/z", "/")])

    def test_a_part_where_nothing_lay(self):
        below = [folder("/x"), file("/x/y", "t"), link("/z", "x")]
        put = [folder("/c/m"), folder("/c/m/x"), file("/c/m/x/y", "t"), link("/c/m/z", "x")]
        self.assertEqual(grafted(TREE, ("c", "m"), ("folder", ""), below), TREE + put)
        self.assertEqual(below, [folder("/x"), file("/x/y", "t"), link("/z", "x")])

    def test_a_file_over_a_file_and_a_link(self):
        self.assertEqual(grafted(TREE, ("abc",), ("file", "new"), []), TREE[:6] + [file("/abc", "new")] + TREE[7:])
        self.assertEqual(grafted(TREE, ("b",), ("file", "new"), []), TREE[:7] + [file("/b", "new")] + TREE[8:])

    def test_a_file_over_a_folder(self):
        self.assertEqual(grafted(TREE, ("a",), ("file", "new"), []), [file("/a", "new")] + TREE[4:])
        self.assertEqual(grafted(TREE, ("ab",), ("link", "a"), []), TREE[:4] + [link("/ab", "a")] + TREE[6:])

    def test_a_folder_over_a_file(self):
        below = [file("/x", "y")]
        self.assertEqual(
            grafted(TREE, ("abc",), ("folder", ""), below),
            TREE[:6] + [folder("/abc"), file("/abc/x", "y")] + TREE[7:])

    def test_a_folder_over_a_folder_keeps_nothing(self):
        below = [file("/x", "y")]
        self.assertEqual(grafted(TREE, ("a",), ("folder", ""), below), [folder("/a"), file("/a/x", "y")] + TREE[4:])
        self.assertEqual(grafted(TREE, ("a",), ("folder", ""), []), [folder("/a")] + TREE[4:])

    def test_a_way_that_begins_like_another_one(self):
        tree = [folder("/a"), file("/a/b"), folder("/ab"), file("/ab/c")]
        self.assertEqual(grafted(tree, ("a",), ("file", ""), []), [file("/a")] + tree[2:])
        self.assertEqual(grafted(tree, ("ab",), ("file", ""), []), tree[:2] + [file("/ab")])

    def test_great_trees(self):
        told = grafted(chain(39), FORTY, ("file", "x" * 10000), [])
        self.assertEqual(told, chain(39) + [(FORTY, "file", "x" * 10000)])
        self.assertEqual(grafted([], FORTY[:1], ("folder", ""), part(wide_tree(), FORTY[:1])), wide_tree())
        self.assertEqual(grafted(wide_tree(), FORTY[:1], ("file", ""), []), [(FORTY[:1], "file", "")])

    def test_taken_out_and_put_in_again(self):
        for tree in TREES:
            for way, mark, text in tree:
                bare = without(tree, way)
                self.assertEqual(grafted(bare, way, (mark, text), part(tree, way)), tree)
                self.assertEqual(grafted(tree, way, (mark, text), part(tree, way)), tree)

    def test_what_is_put_in_lies_there(self):
        for number, tree in enumerate(TREES):
            below = TREES[number - 1]
            for way, mark, text in tree:
                told = grafted(tree, way, ("folder", ""), below)
                self.assertIs(is_tree(told), True)
                self.assertEqual(thing_at(told, way), ("folder", ""))
                self.assertEqual(part(told, way), below)
                self.assertEqual(without(told, way), without(tree, way))
                told = grafted(tree, way, ("file", "new"), [])
                self.assertIs(is_tree(told), True)
                self.assertEqual(thing_at(told, way), ("file", "new"))
                self.assertEqual(part(told, way), [])
                self.assertEqual(without(told, way), without(tree, way))

    def test_lists(self):
        tree, below = list(TREE), [file("/x", "y")]
        told = grafted(tree, ("c",), ("folder", ""), below)
        kept = list(told)
        told.clear()
        self.assertEqual((tree, below), (TREE, [file("/x", "y")]))
        self.assertEqual(grafted(tree, ("c",), ("folder", ""), below), kept)

    def test_arguments(self):
        told = grafted(below=[], thing=("file", "x"), way=("a",), tree=[])
        self.assertEqual(told, [file("/a", "x")])


if __name__ == "__main__":
    unittest.main()
