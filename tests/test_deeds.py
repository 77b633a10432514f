import random
import unittest

import plainmodel
from glasslayers.deeds import done
from glasslayers.errors import (
    Astray, Crowded, GlassError, InItself, IsFolder, IsThere, Missing, NoPlace, NotEmpty, NotFolder, NoWay, TooDeep,
)
from glasslayers.trees import is_tree
from samples import FORTY, chain, file, folder, link, linked_tree, random_deed, random_text, wide_tree

TREE = [
    folder("/a"), folder("/a/b"), file("/a/b/f", "text"), folder("/a/e"), link("/a/up", ".."), file("/f", "x"),
    link("/la", "a"), link("/lf", "a/b/f"), link("/loop", "loop"), link("/new", "a/e/n"), link("/r", "/"),
]
# Texts of places that each deed refuses in the same way, at any word that asks for a place.
BAD_PLACES = [
    ("", NoWay), ("a//b", NoWay), ("a/", NoWay), ("/", NoPlace), ("a/..", NoPlace), ("x/.", NoPlace),
    ("x/y", Missing), ("f/y", NotFolder), ("lf/y", NotFolder), ("loop/y", Astray),
]
# Eleven, twelve and thirteen folders in one another, and trees of fifty-nine, sixty and sixty-one entries.
DEPTH = {count: "/".join(FORTY[:count]) for count in range(1, 15)}


def flat(count):
    return [file(f"/w{number:02}", "x") for number in range(count)]


class Base(unittest.TestCase):
    def check(self, tree, deed, wanted):
        kept = list(tree)
        told = done(tree, deed)
        self.assertIs(is_tree(told), True)
        self.assertEqual(told, sorted(wanted), deed)
        self.assertIsNot(told, tree)
        self.assertEqual(tree, kept)

    def refused(self, tree, deed, refusal):
        kept = list(tree)
        with self.assertRaises(GlassError, msg=deed) as caught:
            done(tree, deed)
        self.assertIs(type(caught.exception), refusal, deed)
        self.assertEqual(tree, kept)

    def but(self, *entries, out=()):
        """TREE with the entries in the place of those at the same ways, and without what lies at or under `out`."""
        ways = [entry[0] for entry in entries]
        kept = [entry for entry in TREE if entry[0] not in ways and not (out and entry[0][:len(out)] == out)]
        return sorted(kept + list(entries))


class WriteTest(Base):
    def test_on_a_file(self):
        self.check(TREE, ("write", "f", "new"), self.but(file("/f", "new")))
        self.check(TREE, ("write", "/a/b/f", ""), self.but(file("/a/b/f", "")))
        self.check(TREE, ("write", "f", "x"), TREE)

    def test_where_nothing_lies(self):
        self.check(TREE, ("write", "n", "new text "), self.but(file("/n", "new text ")))
        self.check(TREE, ("write", "a/e/n", ""), self.but(file("/a/e/n", "")))
        self.check([], ("write", "n", "x" * 10000), [file("/n", "x" * 10000)])

    def test_through_links_and_dots(self):
        self.check(TREE, ("write", "lf", "new"), self.but(file("/a/b/f", "new")))
        self.check(TREE, ("write", "new", "new"), self.but(file("/a/e/n", "new")))
        self.check(TREE, ("write", "la/b/f", "new"), self.but(file("/a/b/f", "new")))
        self.check(TREE, ("write", "a/./b/../n", "new"), self.but(file("/a/n", "new")))
        self.check(TREE, ("write", "a/up/r/f", "new"), self.but(file("/f", "new")))

    def test_refusals(self):
        for text, refusal in BAD_PLACES:
            self.refused(TREE, ("write", text, "new"), refusal)
        for text in ("a", "a/b", "a/e", "la"):
            self.refused(TREE, ("write", text, "new"), IsFolder)
        for text in ("r", "a/up"):
            self.refused(TREE, ("write", text, "new"), NoPlace)
        self.refused(TREE, ("write", "loop", "new"), Astray)

    def test_depth(self):
        self.check(chain(11), ("write", DEPTH[12], "x"), chain(11) + [(FORTY[:12], "file", "x")])
        self.refused(chain(12), ("write", DEPTH[13], "x"), TooDeep)
        there = chain(12) + [(FORTY[:13], "file", "old")]
        self.check(there, ("write", DEPTH[13], "x"), chain(12) + [(FORTY[:13], "file", "x")])
        self.refused(chain(13), ("write", DEPTH[13], "x"), IsFolder)
        deep = [link("/l", DEPTH[13])] + chain(12)
        self.refused(deep, ("write", "l", "x"), TooDeep)

    def test_crowd(self):
        self.check(flat(59), ("write", "z", "x"), flat(59) + [file("/z", "x")])
        self.refused(flat(60), ("write", "z", "x"), Crowded)
        self.refused(flat(61), ("write", "z", "x"), Crowded)
        self.check(flat(61), ("write", "w00", "y"), [file("/w00", "y")] + flat(61)[1:])
        self.refused(chain(12) + flat(48), ("write", DEPTH[13], "x"), TooDeep)
        self.refused(chain(11) + flat(49), ("write", DEPTH[12], "x"), Crowded)


class AddTest(Base):
    def test_on_a_file(self):
        self.check(TREE, ("add", "f", "new"), self.but(file("/f", "xnew")))
        self.check(TREE, ("add", "f", ""), TREE)
        self.check(TREE, ("add", "/a/b/f", " "), self.but(file("/a/b/f", "text ")))
        self.check([file("/f")], ("add", "f", "x"), [file("/f", "x")])

    def test_through_links_and_dots(self):
        self.check(TREE, ("add", "lf", "new"), self.but(file("/a/b/f", "textnew")))
        self.check(TREE, ("add", "la/up/a/./b/f", "new"), self.but(file("/a/b/f", "textnew")))

    def test_refusals(self):
        for text in ("a", "a/e", "la", "r", "/", ".", "..", "a/..", "a/up"):
            self.refused(TREE, ("add", text, "new"), IsFolder)
        for text in ("x", "a/x", "new", "x/.", "x/y"):
            self.refused(TREE, ("add", text, "new"), Missing)
        for text in ("f/x", "f/.", "lf/.."):
            self.refused(TREE, ("add", text, "new"), NotFolder)
        for text in ("loop", "loop/x"):
            self.refused(TREE, ("add", text, "new"), Astray)
        for text in ("", "f/", "a//f", "A"):
            self.refused(TREE, ("add", text, "new"), NoWay)

    def test_depth_and_crowd_do_not_matter(self):
        there = chain(12) + [(FORTY[:13], "file", "old")]
        self.check(there, ("add", DEPTH[13], "x"), chain(12) + [(FORTY[:13], "file", "oldx")])
        self.check(flat(99), ("add", "w00", "y"), [file("/w00", "xy")] + flat(99)[1:])


class NewTest(Base):
    """The deeds folder and link."""

    def test_where_nothing_lies(self):
        self.check(TREE, ("folder", "n"), self.but(folder("/n")))
        self.check(TREE, ("folder", "/a/e/n"), self.but(folder("/a/e/n")))
        self.check(TREE, ("link", "n", "x/y"), self.but(link("/n", "x/y")))
        self.check(TREE, ("link", "a/n", "/"), self.but(link("/a/n", "/")))
        self.check(TREE, ("link", "n", "n"), self.but(link("/n", "n")))
        self.check([], ("folder", "n"), [folder("/n")])
        self.check([], ("link", "n", ".."), [link("/n", "..")])

    def test_through_links_and_dots(self):
        self.check(TREE, ("folder", "la/n"), self.but(folder("/a/n")))
        self.check(TREE, ("folder", "a/up/../n"), self.but(folder("/n")))
        self.check(TREE, ("link", "la/e/n", "f"), self.but(link("/a/e/n", "f")))

    def test_refusals(self):
        for text, refusal in BAD_PLACES:
            self.refused(TREE, ("folder", text), refusal)
            self.refused(TREE, ("link", text, "f"), refusal)
            self.refused(TREE, ("link", text, "a//b"), refusal)
        for text in ("a", "f", "la", "lf", "loop", "new", "a/e", "a/up"):
            self.refused(TREE, ("folder", text), IsThere)
            self.refused(TREE, ("link", text, "f"), IsThere)

    def test_where_a_link_leads_must_be_a_way_text(self):
        for to in ("", "a/", "//", "...", "a b", "/".join(["a"] * 41)):
            self.refused(TREE, ("link", "n", to), NoWay)
            self.refused(TREE, ("link", "f", to), NoWay)
            self.refused(chain(12), ("link", DEPTH[13], to), NoWay)
            self.refused(flat(60), ("link", "n", to), NoWay)
        self.check(TREE, ("link", "n", "/".join(["a"] * 40)), self.but(link("/n", "/".join(["a"] * 40))))

    def test_depth(self):
        self.check(chain(11), ("folder", DEPTH[12]), chain(12))
        self.check(chain(11), ("link", DEPTH[12], "a"), chain(11) + [(FORTY[:12], "link", "a")])
        for deed in (("folder", DEPTH[13]), ("link", DEPTH[13], "a")):
            self.refused(chain(12), deed, TooDeep)
            self.refused(chain(13), deed, IsThere)
            self.refused(chain(12) + flat(48), deed, TooDeep)

    def test_crowd(self):
        self.check(flat(59), ("folder", "z"), flat(59) + [folder("/z")])
        self.check(flat(59), ("link", "z", "w00"), flat(59) + [link("/z", "w00")])
        for count in (60, 61, 400):
            many = [file(f"/w{number:03}") for number in range(count)]
            self.refused(many, ("folder", "z"), Crowded)
            self.refused(many, ("link", "z", "a"), Crowded)
            self.refused(many, ("folder", "w000"), IsThere)
            self.refused(many, ("link", "w000", "a"), IsThere)


class GoingTest(Base):
    """The deeds drop and sweep."""

    def test_files_links_and_empty_folders(self):
        for text in ("f", "/lf", "loop", "a/e", "a/up", "a/b/f", "la/e", "a/./b/../e"):
            way = tuple([name for name in text.replace("la/", "a/").replace("./b/../", "").split("/") if name])
            self.check(TREE, ("drop", text), self.but(out=way))
            self.check(TREE, ("sweep", text), self.but(out=way))

    def test_folders_with_something_in_them(self):
        for text, way in (("a", ("a",)), ("a/b", ("a", "b")), ("la/b", ("a", "b"))):
            self.refused(TREE, ("drop", text), NotEmpty)
            self.check(TREE, ("sweep", text), self.but(out=way))

    def test_a_link_is_not_followed(self):
        self.check(TREE, ("drop", "la"), self.but(out=("la",)))
        self.check(TREE, ("sweep", "la"), self.but(out=("la",)))

    def test_names_that_begin_alike(self):
        tree = [folder("/a"), file("/a/b"), file("/ab"), folder("/abc")]
        self.check(tree, ("sweep", "a"), tree[2:])
        self.check(tree, ("drop", "abc"), tree[:3])

    def test_refusals(self):
        for kind in ("drop", "sweep"):
            for text, refusal in BAD_PLACES:
                self.refused(TREE, (kind, text), refusal)
            for text in ("x", "a/x", "la/x", "a/b/x"):
                self.refused(TREE, (kind, text), Missing)
            self.refused([], (kind, "a"), Missing)

    def test_great_trees(self):
        self.check(wide_tree(), ("sweep", "/".join(FORTY[:39])), chain(38))
        self.check(wide_tree(), ("drop", "/".join(FORTY)), [entry for entry in wide_tree() if entry[0] != FORTY])


class CarryTest(Base):
    """The deeds move and copy."""

    def check_both(self, tree, where, to, first, second):
        there = [(second + entry[0][len(first):],) + entry[1:] for entry in tree if entry[0][:len(first)] == first]
        self.check(tree, ("copy", where, to), tree + there)
        self.check(tree, ("move", where, to), [entry for entry in tree if entry[0][:len(first)] != first] + there)

    def test_each_thing(self):
        self.check_both(TREE, "f", "g", ("f",), ("g",))
        self.check_both(TREE, "lf", "g", ("lf",), ("g",))
        self.check_both(TREE, "a/e", "g", ("a", "e"), ("g",))
        self.check_both(TREE, "a", "g", ("a",), ("g",))
        self.check_both(TREE, "a/b", "a/e/g", ("a", "b"), ("a", "e", "g"))
        self.check_both(TREE, "a/b/f", "0", ("a", "b", "f"), ("0",))
        self.check_both(TREE, "loop", "a/loop", ("loop",), ("a", "loop"))

    def test_through_links_and_dots(self):
        self.check_both(TREE, "la/b", "r/g", ("a", "b"), ("g",))
        self.check_both(TREE, "a/up/f", "./la/./g", ("f",), ("a", "g"))

    def test_names_that_begin_alike(self):
        tree = [folder("/a"), file("/a/b"), file("/ab")]
        self.check_both(tree, "a", "abc", ("a",), ("abc",))
        self.check_both(tree, "a", "aa", ("a",), ("aa",))

    def test_refusals_of_the_first_place(self):
        for kind in ("move", "copy"):
            for text, refusal in BAD_PLACES:
                for to in ("g", "f", "x/y", "a//b", "/"):
                    self.refused(TREE, (kind, text, to), refusal)
            for to in ("g", "f", "x/y", "a//b", "/", "x"):
                self.refused(TREE, (kind, "x", to), Missing)
                self.refused(TREE, (kind, "a/x", to), Missing)

    def test_refusals_of_the_second_place(self):
        for kind in ("move", "copy"):
            for text, refusal in BAD_PLACES:
                self.refused(TREE, (kind, "f", text), refusal)
                self.refused(TREE, (kind, "a", text), refusal)

    def test_into_itself(self):
        for kind in ("move", "copy"):
            for to in ("a", "a/x", "a/b", "a/b/x", "la/x", "la/b", "a/b/../x", "a/up/a/e/x", "r/a"):
                self.refused(TREE, (kind, "a", to), InItself)
            self.refused(TREE, (kind, "f", "f"), InItself)
            self.refused(TREE, (kind, "lf", "./lf"), InItself)
            self.refused(TREE, (kind, "a/e", "la/e/x"), InItself)

    def test_onto_something(self):
        for kind in ("move", "copy"):
            for to in ("a", "la", "loop", "a/b", "a/up", "a/b/f"):
                self.refused(TREE, (kind, "f", to), IsThere)
            self.refused(TREE, (kind, "a/b", "a"), IsThere)
            self.refused(TREE, (kind, "a", "f"), IsThere)

    def test_depth(self):
        rest = [folder("/z"), folder("/z/y"), file("/z/y/x", "t")]
        for first, fits in (("z", 10), ("z/y", 11), ("z/y/x", 12)):
            self.check_both(chain(fits - 1) + rest, first, DEPTH[fits], tuple(first.split("/")), FORTY[:fits])
            for kind in ("move", "copy"):
                self.refused(chain(fits) + rest, (kind, first, DEPTH[fits] + "/x"), TooDeep)
        for kind in ("move", "copy"):
            self.refused(chain(12) + [file("/z")], (kind, "z", DEPTH[12] + "/x"), TooDeep)
            self.refused(chain(12) + [file("/z")], (kind, "z", DEPTH[12]), IsThere)
        self.check_both([file("/a")] + chain(11), "a", DEPTH[12], ("a",), FORTY[:12])

    def test_from_too_deep(self):
        tree = chain(14) + [(FORTY[:14] + ("f",), "file", "x")]
        self.check_both(tree, DEPTH[13], "z", FORTY[:13], ("z",))
        for kind in ("move", "copy"):
            self.refused(tree, (kind, DEPTH[14] + "/f", DEPTH[12] + "/g"), TooDeep)

    def test_crowd(self):
        self.check(flat(59), ("copy", "w00", "z"), flat(59) + [file("/z", "x")])
        self.refused(flat(60), ("copy", "w00", "z"), Crowded)
        self.check(flat(61), ("move", "w00", "z"), flat(61)[1:] + [file("/z", "x")])
        full = [folder("/a")] + [file(f"/a/f{number}", "x") for number in range(9)]
        self.check_both(full + flat(40), "a", "z", ("a",), ("z",))
        self.refused(full + flat(41), ("copy", "a", "z"), Crowded)
        self.assertEqual(len(done(full + flat(41), ("move", "a", "z"))), 51)
        self.refused(flat(60), ("copy", "w00", "w01"), IsThere)
        self.refused(flat(60), ("copy", "w00", "w00"), InItself)
        self.refused(chain(12) + flat(60), ("copy", "w00", DEPTH[13]), TooDeep)

    def test_great_trees(self):
        self.check(wide_tree(), ("move", "/".join(FORTY[:39]), "z"), chain(38) + [
            (("z",) + entry[0][39:],) + entry[1:] for entry in wide_tree()[38:]])
        self.refused(wide_tree(), ("copy", "/".join(FORTY[:39]), "z"), Crowded)
        self.refused(wide_tree(), ("move", FORTY[0], "z"), TooDeep)


class ManyDeedsTest(Base):
    def compare(self, tree, deed):
        kept = list(tree)
        told = plainmodel.outcome(done, tree, deed)
        self.assertEqual(told, plainmodel.outcome(plainmodel.done, tree, deed), (tree, deed))
        self.assertEqual(tree, kept)
        return told

    def test_many_deeds_on_many_trees(self):
        rng = random.Random(91)
        for turn in range(4000):
            self.compare(linked_tree(rng, turns=rng.randint(0, 16)), random_deed(rng))

    def test_rows_of_deeds(self):
        rng = random.Random(92)
        for row in range(40):
            tree = []
            for turn in range(100):
                told = self.compare(tree, random_deed(rng))
                tree = told if isinstance(told, list) else tree
            self.assertIs(is_tree(tree), True)

    def test_deep_and_crowded_trees(self):
        rng = random.Random(93)
        met = set()
        for turn in range(400):
            tree = chain(rng.randint(8, 13)) + [folder("/p"), folder("/p/q"), folder("/p/q/r"), file("/p/q/r/s")]
            tree = sorted(tree + flat(rng.choice([20, 40, 41, 42, 43, 44, 45, 46])))
            texts = ["/".join(entry[0] + rng.choice([(), ("d",)])) for entry in rng.choices(tree, k=8)]
            texts += [random_text(rng), "p", "p/q", "z"]
            for kind in ("write", "folder", "move", "copy", "copy", "sweep"):
                words = [rng.choice(texts), rng.choice(texts)]
                told = self.compare(tree, (kind,) + tuple(words[:1] if kind in ("folder", "sweep") else words))
                met.add(told if isinstance(told, type) else list)
        self.assertLessEqual({list, TooDeep, Crowded, IsThere, InItself, Missing}, met)

    def test_lists(self):
        tree = list(TREE)
        for deed in (("write", "f", "x"), ("add", "f", ""), ("folder", "n"), ("drop", "f"), ("copy", "f", "g")):
            told = done(tree, deed)
            kept = list(told)
            told.append("x")
            self.assertEqual(done(tree, deed), kept)
            self.assertEqual(tree, TREE)

    def test_arguments(self):
        self.assertEqual(done(deed=("folder", "a"), tree=[]), [folder("/a")])


if __name__ == "__main__":
    unittest.main()
