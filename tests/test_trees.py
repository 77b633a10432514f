import itertools
import unittest

from glasslayers.errors import GlassError, Missing, NotFolder
from glasslayers.trees import is_tree, names_in, thing_at
from samples import FORTY, chain, file, folder, link, random_trees, small_trees, wide_tree

TREE = [
    folder("/a"), folder("/a/b"), file("/a/b/c", "text"), folder("/a/b/d"), folder("/a/b/d/e"), file("/a/z", "z"),
    file("/ab", "one two "), link("/b", "a/b"), folder("/c"), link("/d", "/nowhere"),
]


def tree_by_words(entries):
    """What a tree is, read off the document's words for entries that are written rightly."""
    ways = [entry[0] for entry in entries]
    folders = [entry[0] for entry in entries if entry[1] == "folder"]
    return (
        ways == sorted(set(ways)) and () not in ways
        and all(entry[1] in ("file", "link", "folder") for entry in entries)
        and all(len(way) == 1 or way[:-1] in folders for way in ways)
    )


class IsTreeTest(unittest.TestCase):
    def assert_tree(self, entries):
        kept = list(entries)
        self.assertIs(is_tree(entries), True, entries[:5])
        self.assertEqual(entries, kept)

    def assert_no_tree(self, entries):
        kept = list(entries)
        self.assertIs(is_tree(entries), False, entries[:5])
        self.assertEqual(entries, kept)

    def test_ordinary_trees(self):
        self.assert_tree([])
        self.assert_tree([file("/a")])
        self.assert_tree([file("/a", " ~ any signs: /!$&'()*+,-.;<=>?@[]^_`{|}")])
        self.assert_tree([folder("/a")])
        self.assert_tree(TREE)
        for tree in small_trees() + random_trees(1, 50, turns=20):
            self.assert_tree(tree)

    def test_great_trees(self):
        self.assert_tree(chain(40))
        self.assert_tree(chain(40, "file"))
        self.assertEqual(len(wide_tree()), 400)
        self.assert_tree(wide_tree())
        self.assert_tree([file(f"/f{number:03}", "x" * 10000) for number in range(400)])

    def test_links(self):
        for text in ("/", ".", "..", "a", "/a/../b", "/".join(["a"] * 40)):
            self.assert_tree([link("/a", text)])
        for text in ("", "a/", "//", "a//b", "...", " ", "A", "a" * 13, "/".join(["a"] * 41)):
            self.assert_no_tree([link("/a", text)])

    def test_order(self):
        self.assert_no_tree([file("/b"), file("/a")])
        self.assert_no_tree([file("/a/b"), folder("/a")])
        self.assert_no_tree([folder("/a"), file("/ab"), file("/a/b")])
        self.assert_no_tree([file("/a"), file("/0")])
        self.assert_no_tree(list(reversed(TREE)))
        for number in range(len(TREE) - 1):
            moved = TREE[:number] + [TREE[number + 1], TREE[number]] + TREE[number + 2:]
            self.assert_no_tree(moved)

    def test_a_way_twice(self):
        self.assert_no_tree([file("/a"), file("/a")])
        self.assert_no_tree([file("/a", "x"), file("/a", "y")])
        self.assert_no_tree([file("/a"), folder("/a")])
        self.assert_no_tree([folder("/a"), folder("/a"), file("/a/b")])

    def test_the_root_has_no_entry(self):
        for mark in ("file", "folder", "gone", "shut"):
            self.assert_no_tree([((), mark, "")])
        self.assert_no_tree([((), "link", "/")])
        self.assert_no_tree([((), "folder", ""), file("/a")])

    def test_what_stands_above(self):
        self.assert_no_tree([file("/a/b")])
        self.assert_no_tree([folder("/a"), file("/a/b/c")])
        self.assert_no_tree([folder("/a"), file("/ab/c")])
        self.assert_no_tree([folder("/a"), folder("/b/c")])
        self.assert_no_tree([file("/a"), file("/a/b")])
        self.assert_no_tree([link("/a", "/c"), file("/a/b"), folder("/c")])
        self.assert_no_tree(chain(40)[:20] + chain(40)[21:])

    def test_marks(self):
        for mark in ("gone", "shut", "", "File", "FILE", "folder ", "file ", "root", "f", "filefile"):
            self.assert_no_tree([(("a",), mark, "")])
            self.assert_no_tree([folder("/a"), (("a", "b"), mark, "")])

    def test_a_folder_has_no_text(self):
        for text in ("x", " ", "/", "folder"):
            self.assert_no_tree([(("a",), "folder", text)])
            self.assert_no_tree([folder("/a"), (("a", "b"), "folder", text)])

    def test_names(self):
        for name in ("", "A", "a b", ".", "..", "/", "a/b", "a" * 13, "-", " a"):
            self.assert_no_tree([((name,), "file", "")])
            self.assert_no_tree([((name,), "folder", "")])
            self.assert_no_tree([folder("/a"), (("a", name), "file", "")])
            self.assert_no_tree([((name,), "folder", ""), ((name, "a"), "file", "")])
        self.assert_tree([(("a" * 12,), "file", "")])

    def test_one_fault_at_the_end_of_a_great_tree(self):
        self.assert_no_tree(wide_tree()[:-1] + [(FORTY[:39] + ("w",), "file", "")])
        self.assert_no_tree(wide_tree()[:-1] + [(("z",), "gone", "")])
        self.assert_no_tree(wide_tree()[:-1] + [(("z", "z"), "file", "")])

    def test_small_lists_against_the_words_of_the_document(self):
        pool = [
            ((), "folder", ""), folder("/a"), file("/a"), link("/a", "."), file("/a/b"), folder("/a/b"),
            file("/a/b/c"), file("/ab"), (("ab",), "gone", ""), (("a",), "shut", ""),
        ]
        for count in range(4):
            for entries in itertools.product(pool, repeat=count):
                self.assertIs(is_tree(list(entries)), tree_by_words(entries), entries)

    def test_argument(self):
        self.assertIs(is_tree(entries=[]), True)


class ThingAtTest(unittest.TestCase):
    def test_the_root(self):
        for tree in ([], TREE, wide_tree()):
            self.assertEqual(thing_at(tree, ()), ("folder", ""))

    def test_each_thing(self):
        for tree in (TREE, wide_tree()):
            for way, mark, text in tree:
                told = thing_at(tree, way)
                self.assertIs(type(told), tuple)
                self.assertEqual(told, (mark, text))

    def test_nothing(self):
        for way in (("x",), ("a", "x"), ("a", "b", "c", "d"), ("ab", "x"), ("b", "b"), ("abc",), ("c", "c"), FORTY):
            self.assertIsNone(thing_at(TREE, way))
        self.assertIsNone(thing_at([], ("a",)))
        self.assertIsNone(thing_at(wide_tree(), FORTY[:39] + ("w",)))

    def test_what_is_handed_in_stays_as_it_was(self):
        tree = list(TREE)
        thing_at(tree, ("a",))
        self.assertEqual(tree, TREE)

    def test_arguments(self):
        self.assertEqual(thing_at(way=("ab",), tree=TREE), ("file", "one two "))


class NamesInTest(unittest.TestCase):
    def test_names(self):
        self.assertEqual(names_in(TREE, ()), ["a", "ab", "b", "c", "d"])
        self.assertEqual(names_in(TREE, ("a",)), ["b", "z"])
        self.assertEqual(names_in(TREE, ("a", "b")), ["c", "d"])
        self.assertEqual(names_in(TREE, ("a", "b", "d")), ["e"])

    def test_empty_folders(self):
        self.assertEqual(names_in([], ()), [])
        self.assertEqual(names_in(TREE, ("c",)), [])
        self.assertEqual(names_in(TREE, ("a", "b", "d", "e")), [])

    def test_sorted(self):
        tree = [file("/0"), file("/00"), file("/9"), folder("/a"), file("/a/z"), file("/a0"), file("/aa"), file("/b")]
        self.assertEqual(names_in(tree, ()), ["0", "00", "9", "a", "a0", "aa", "b"])

    def test_great_trees(self):
        self.assertEqual(names_in(wide_tree(), FORTY[:39]), ["n39"] + [f"w{number:03}" for number in range(360)])
        self.assertEqual(names_in(wide_tree(), FORTY[:38]), ["n38"])
        self.assertEqual(names_in(wide_tree(), FORTY), [])

    def refusal(self, tree, way):
        with self.assertRaises(GlassError) as caught:
            names_in(tree, way)
        return type(caught.exception)

    def test_missing(self):
        for way in (("x",), ("a", "x"), ("ab", "x"), ("b", "c"), ("a", "b", "c", "d"), ("abc",)):
            self.assertIs(self.refusal(TREE, way), Missing)
        self.assertIs(self.refusal([], ("a",)), Missing)

    def test_not_folder(self):
        for way in (("ab",), ("b",), ("d",), ("a", "z"), ("a", "b", "c")):
            self.assertIs(self.refusal(TREE, way), NotFolder)

    def test_against_things(self):
        for tree in random_trees(2, 60, turns=14):
            for way, mark, text in tree:
                if mark == "folder":
                    names = names_in(tree, way)
                    self.assertEqual(names, sorted(names))
                    wanted = {entry[0] for entry in tree if entry[0][:-1] == way}
                    self.assertEqual({way + (name,) for name in names}, wanted)
                    self.assertEqual(len(names), len(wanted))
                else:
                    self.assertIs(self.refusal(tree, way), NotFolder)

    def test_a_told_list_is_the_askers_own(self):
        tree = list(TREE)
        told = names_in(tree, ())
        told.append("x")
        told.insert(0, "y")
        self.assertEqual(names_in(tree, ()), ["a", "ab", "b", "c", "d"])
        self.assertIsNot(names_in(tree, ()), names_in(tree, ()))
        self.assertEqual(tree, TREE)

    def test_arguments(self):
        self.assertEqual(names_in(way=("a",), tree=TREE), ["b", "z"])


if __name__ == "__main__":
    unittest.main()
