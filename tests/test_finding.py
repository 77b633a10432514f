import itertools
import random
import unittest

import plainmodel
from glasslayers.errors import Astray, GlassError, Missing, NoPlace, NotFolder, NoWay
from glasslayers.finding import find_way, goal_of, place_of, trail_of
from samples import FORTY, LINK_TEXTS, chain, file, folder, link, linked_tree, random_text, wide_tree

TREE = [
    folder("/a"), folder("/a/b"), file("/a/b/f", "text"), link("/a/deep", "b"), link("/a/up", ".."),
    file("/f", "x"), link("/loop", "loop"), link("/ltof", "a/b/f"), link("/none", "/a/none"), link("/r", "/"),
    link("/self", "."), folder("/z"), link("/z/af", "../a/b/f"), link("/z/dots", "../a/b/.."), link("/z/ra", "/a"),
]
ALL = (find_way, place_of, goal_of, trail_of)
# Each link leads to the one before it, and the first one to a file.
ROW = [file("/l0", "end")] + [link(f"/l{number}", f"l{number - 1}") for number in range(1, 10)]
# Each link leads to the root, so that one goes on where one stands.
STAY = [folder("/d"), file("/d/f"), link("/s", ".")]


class Base(unittest.TestCase):
    def assert_refused(self, refusal, function, *handed):
        with self.assertRaises(GlassError) as caught:
            function(*handed)
        self.assertIs(type(caught.exception), refusal, handed[1:])


class FindTest(Base):
    def check(self, at, text, wanted):
        told = find_way(TREE, at, text)
        self.assertIs(type(told), tuple)
        self.assertEqual(told, wanted, (at, text))

    def test_the_root(self):
        for at in ((), ("a",), ("a", "b")):
            self.check(at, "/", ())
            self.check(at, "/.", ())
            self.check(at, "/..", ())
            self.check(at, "/../..", ())

    def test_dots(self):
        self.check((), ".", ())
        self.check((), "..", ())
        self.check((), "../../a", ("a",))
        self.check(("a", "b"), ".", ("a", "b"))
        self.check(("a", "b"), "..", ("a",))
        self.check(("a", "b"), "../..", ())
        self.check(("a", "b"), "../../..", ())
        self.check(("a",), "./b/./..", ("a",))

    def test_names(self):
        self.check((), "a", ("a",))
        self.check((), "/a/b", ("a", "b"))
        self.check(("a",), "b", ("a", "b"))
        self.check(("a",), "/z", ("z",))
        self.check((), "a/b/f", ("a", "b", "f"))
        self.check(("z",), "../f", ("f",))

    def test_a_file_ahead_of_the_last_word(self):
        for text in ("f/a", "f/.", "f/..", "/f/a/b", "a/b/f/..", "ltof/.", "ltof/f"):
            self.assert_refused(NotFolder, find_way, TREE, (), text)

    def test_nothing_there(self):
        for text in ("x", "a/x", "x/..", "a/x/../b", "/ab", "none", "none/a", "a/none"):
            self.assert_refused(Missing, find_way, TREE, (), text)
        self.assert_refused(Missing, find_way, TREE, ("a",), "a")
        self.assert_refused(Missing, find_way, [], (), "a")

    def test_links_at_the_last_word(self):
        self.check((), "ltof", ("a", "b", "f"))
        self.check((), "a/deep", ("a", "b"))
        self.check((), "a/up", ())
        self.check((), "r", ())
        self.check((), "self", ())
        self.check((), "z/af", ("a", "b", "f"))
        self.check((), "z/ra", ("a",))
        self.check((), "z/dots", ("a",))

    def test_links_ahead_of_the_last_word(self):
        self.check((), "a/deep/f", ("a", "b", "f"))
        self.check((), "a/deep/..", ("a",))
        self.check((), "a/up/a/b", ("a", "b"))
        self.check((), "r/r/f", ("f",))
        self.check(("z",), "ra/deep/f", ("a", "b", "f"))
        self.check(("z",), "ra/..", ())
        self.check(("a", "b"), "../deep/../up/z", ("z",))
        self.check(("a", "b"), "/self/self/a", ("a",))

    def test_a_link_to_itself(self):
        self.assert_refused(Astray, find_way, TREE, (), "loop")
        self.assert_refused(Astray, find_way, TREE, (), "loop/x")
        two = [link("/a", "/b"), link("/b", "a")]
        self.assert_refused(Astray, find_way, two, (), "a")
        self.assert_refused(Astray, find_way, two, (), "b/x")

    def test_eight_links_and_a_ninth(self):
        for number in range(9):
            self.assertEqual(find_way(ROW, (), f"l{number}"), ("l0",))
        self.assert_refused(Astray, find_way, ROW, (), "l9")
        self.assertEqual(find_way(STAY, (), "/".join(["s"] * 8)), ())
        self.assertEqual(find_way(STAY, (), "/".join(["s"] * 8 + ["d", "f"])), ("d", "f"))
        self.assert_refused(Astray, find_way, STAY, (), "/".join(["s"] * 9))
        self.assert_refused(Astray, find_way, STAY, (), "/".join(["s"] * 8 + ["d", "..", "s"]))
        # The ninth link is refused whatever it would lead to.
        tree = sorted(STAY + [link("/t", "none")])
        self.assert_refused(Astray, find_way, tree, (), "/".join(["s"] * 8 + ["t"]))
        self.assert_refused(Missing, find_way, tree, (), "/".join(["s"] * 7 + ["t"]))
        self.assert_refused(Missing, find_way, tree, (), "/".join(["s"] * 8 + ["none"]))

    def test_a_link_whose_words_come_ahead_of_those_left(self):
        tree = [folder("/a"), folder("/a/b"), link("/a/l", "b/../b"), file("/a/b/c"), link("/m", "a/l/c")]
        tree = sorted(tree)
        self.assertEqual(find_way(tree, (), "a/l/c"), ("a", "b", "c"))
        self.assertEqual(find_way(tree, (), "m"), ("a", "b", "c"))
        self.assert_refused(NotFolder, find_way, tree, (), "m/..")

    def test_forty_words(self):
        self.assertEqual(find_way(wide_tree(), (), "/".join(FORTY)), FORTY)
        self.assertEqual(find_way(wide_tree(), FORTY, "/".join([".."] * 39)), FORTY[:1])
        self.assertEqual(find_way(wide_tree(), FORTY[:39], "w359"), FORTY[:39] + ("w359",))
        # A link's own words do not count with those of the text.
        tree = sorted([link("/l", "./" * 39 + ".")] + [folder("/x")])
        self.assertEqual(find_way(tree, (), "./" * 38 + "l/x"), ("x",))
        self.assertEqual(find_way(tree, (), "l/" * 8 + "./" * 31 + "x"), ("x",))

    def test_arguments(self):
        self.assertEqual(find_way(text="b", at=("a",), tree=TREE), ("a", "b"))


class TrailTest(Base):
    def check(self, at, text, wanted):
        told = trail_of(TREE, at, text)
        self.assertIs(type(told), list)
        self.assertEqual([type(row) for row in told], [tuple] * len(told))
        self.assertEqual(told, wanted, (at, text))

    def test_no_words(self):
        self.check((), "/", [])
        self.check(("a",), "/", [])

    def test_each_kind_of_step(self):
        self.check((), ".", [((), ".", ())])
        self.check((), "..", [((), "..", ())])
        self.check(("a", "b"), ".", [(("a", "b"), ".", ("a", "b"))])
        self.check(("a", "b"), "..", [(("a", "b"), "..", ("a",))])
        self.check((), "a", [((), "a", ("a",))])
        self.check(("z",), "/a", [((), "a", ("a",))])
        self.check((), "f", [((), "f", ("f",))])

    def test_several_words(self):
        self.check((), "a/b/f", [((), "a", ("a",)), (("a",), "b", ("a", "b")), (("a", "b"), "f", ("a", "b", "f"))])
        self.check(("a",), "../z/.", [(("a",), "..", ()), ((), "z", ("z",)), (("z",), ".", ("z",))])

    def test_links(self):
        self.check((), "r", [((), "r", ())])
        self.check(("z",), "ra", [(("z",), "ra", ()), ((), "a", ("a",))])
        self.check(("z",), "ra/b", [(("z",), "ra", ()), ((), "a", ("a",)), (("a",), "b", ("a", "b"))])
        self.check(("a",), "deep", [(("a",), "deep", ("a",)), (("a",), "b", ("a", "b"))])
        self.check(("a",), "up/f", [(("a",), "up", ("a",)), (("a",), "..", ()), ((), "f", ("f",))])
        self.check((), "z/af", [
            ((), "z", ("z",)), (("z",), "af", ("z",)), (("z",), "..", ()), ((), "a", ("a",)), (("a",), "b", ("a", "b")),
            (("a", "b"), "f", ("a", "b", "f"))])

    def test_refused_as_what_is_found(self):
        for text, refusal in (("x", Missing), ("f/.", NotFolder), ("loop", Astray), ("none", Missing), ("a//b", NoWay)):
            self.assert_refused(refusal, trail_of, TREE, (), text)

    def test_eight_links(self):
        self.assertEqual(len(trail_of(ROW, (), "l8")), 9)
        self.assert_refused(Astray, trail_of, ROW, (), "l9")

    def test_lists(self):
        told = trail_of(TREE, (), "a/b")
        kept = list(told)
        told.append("x")
        self.assertEqual(trail_of(TREE, (), "a/b"), kept)

    def test_arguments(self):
        self.assertEqual(trail_of(text="b", at=("a",), tree=TREE), [(("a",), "b", ("a", "b"))])


class PlaceTest(Base):
    def check(self, at, text, wanted):
        told = place_of(TREE, at, text)
        self.assertIs(type(told), tuple)
        self.assertEqual(told, wanted, (at, text))

    def test_whatever_lies_there(self):
        self.check((), "a", ("a",))
        self.check((), "/f", ("f",))
        self.check((), "x", ("x",))
        self.check((), "loop", ("loop",))
        self.check(("a",), "b/new", ("a", "b", "new"))
        self.check(("a",), "/new", ("new",))
        self.check(("a",), "../z/new", ("z", "new"))
        self.check((), "../../new", ("new",))

    def test_links(self):
        self.check((), "a/deep", ("a", "deep"))
        self.check((), "a/deep/new", ("a", "b", "new"))
        self.check(("z",), "ra/new", ("a", "new"))
        self.check((), "r/r/ltof", ("ltof",))
        self.check((), "self/none", ("none",))

    def test_the_last_word_is_no_name(self):
        for text in ("/", ".", "..", "/.", "/..", "a/.", "a/..", "a/b/.", "./..", "x/.", "f/..", "loop/.", "none/.."):
            self.assert_refused(NoPlace, place_of, TREE, (), text)

    def test_refusals_of_the_walk(self):
        for text in ("x/new", "a/x/new", "none/new", "x/../new"):
            self.assert_refused(Missing, place_of, TREE, (), text)
        for text in ("f/new", "ltof/new", "a/b/f/new", "f/./new", "z/af/new", "f/../new"):
            self.assert_refused(NotFolder, place_of, TREE, (), text)
        self.assert_refused(Astray, place_of, TREE, (), "loop/new")

    def test_links_ahead_of_the_last_word_alone_are_counted(self):
        self.assertEqual(place_of(STAY, (), "/".join(["s"] * 9)), ("s",))
        self.assertEqual(place_of(STAY, (), "/".join(["s"] * 8 + ["d"])), ("d",))
        self.assert_refused(Astray, place_of, STAY, (), "/".join(["s"] * 10))
        self.assertEqual(place_of(ROW, (), "l9"), ("l9",))
        self.assert_refused(NotFolder, place_of, ROW, (), "l8/x")
        self.assert_refused(Astray, place_of, ROW, (), "l9/x")

    def test_forty_names(self):
        self.assertEqual(place_of(chain(40), (), "/".join(FORTY)), FORTY)
        self.assertEqual(place_of(chain(40), FORTY, "x"), FORTY + ("x",))

    def test_arguments(self):
        self.assertEqual(place_of(text="x", at=("a",), tree=TREE), ("a", "x"))


class GoalTest(Base):
    def check(self, at, text, wanted):
        told = goal_of(TREE, at, text)
        self.assertIs(type(told), tuple)
        self.assertEqual(told, wanted, (at, text))

    def test_where_no_link_lies(self):
        self.check((), "a", ("a",))
        self.check((), "f", ("f",))
        self.check((), "x", ("x",))
        self.check(("a",), "deep/new", ("a", "b", "new"))

    def test_through_links(self):
        self.check((), "ltof", ("a", "b", "f"))
        self.check((), "a/deep", ("a", "b"))
        self.check((), "none", ("a", "none"))
        self.check((), "z/af", ("a", "b", "f"))
        self.check((), "z/ra", ("a",))
        self.check(("a",), "up/z/ra", ("a",))

    def test_through_several_links(self):
        tree = [folder("/d"), link("/d/m", "../n"), link("/l", "d/m"), link("/n", "/d/new")]
        self.assertEqual(goal_of(tree, (), "l"), ("d", "new"))
        self.assertEqual(goal_of(tree, ("d",), "m"), ("d", "new"))
        self.assertEqual(goal_of(tree, ("d",), "../l"), ("d", "new"))

    def test_a_link_whose_last_word_is_no_name(self):
        for text in ("r", "self", "a/up", "z/dots"):
            self.assert_refused(NoPlace, goal_of, TREE, (), text)
        for text in ("/", ".", "..", "a/.", "x/.."):
            self.assert_refused(NoPlace, goal_of, TREE, (), text)
        self.assert_refused(NoPlace, goal_of, [link("/l", "m"), link("/m", "x/..")], (), "l")

    def test_refusals_of_the_walk(self):
        tree = [file("/f"), link("/l", "x/new"), link("/m", "f/new"), link("/o", "o/x")]
        self.assert_refused(Missing, goal_of, tree, (), "l")
        self.assert_refused(NotFolder, goal_of, tree, (), "m")
        self.assert_refused(Astray, goal_of, tree, (), "o")
        self.assert_refused(Missing, goal_of, TREE, (), "x/new")
        self.assert_refused(NotFolder, goal_of, TREE, (), "f/new")
        self.assert_refused(Astray, goal_of, TREE, (), "loop")
        self.assert_refused(Astray, goal_of, TREE, (), "loop/x")

    def test_the_count_of_links_through_all_of_it(self):
        for number in range(9):
            self.assertEqual(goal_of(ROW, (), f"l{number}"), ("l0",))
        self.assert_refused(Astray, goal_of, ROW, (), "l9")
        tree = sorted(ROW + STAY)
        for stays in range(9):
            ahead = ["s"] * stays
            self.assertEqual(goal_of(tree, (), "/".join(ahead + [f"l{8 - stays}"])), ("l0",))
            self.assert_refused(Astray, goal_of, tree, (), "/".join(ahead + [f"l{9 - stays}"]))
        # Links ahead of the last word of a link's own text are counted, too.
        tree = sorted(STAY + [link("/p", "s/s/s/q"), link("/q", "s/x"), link("/t", "s/p")])
        self.assertEqual(goal_of(tree, (), "t"), ("x",))
        self.assert_refused(Astray, goal_of, tree, (), "s/t")

    def test_a_ninth_link_is_refused_ahead_of_what_its_text_would_bring(self):
        tree = [link("/b", "none/x"), link("/c", ".."), link("/s", ".")]
        for last, refusal in (("b", Missing), ("c", NoPlace)):
            self.assert_refused(refusal, goal_of, tree, (), "/".join(["s"] * 7 + [last]))
            self.assert_refused(Astray, goal_of, tree, (), "/".join(["s"] * 8 + [last]))

    def test_arguments(self):
        self.assertEqual(goal_of(text="x", at=("a",), tree=TREE), ("a", "x"))


class AllTest(Base):
    def test_no_way_texts(self):
        for text in ("", "a/", "//", "/a/", "a//b", "...", " ", "x y", "A", "f//", "x//y", "loop//", "a" * 13,
                     "/".join(["x"] * 41), "./" * 40 + ".", "a" * 10000):
            for function in ALL:
                self.assert_refused(NoWay, function, TREE, (), text)
                self.assert_refused(NoWay, function, [], (), text)
                self.assert_refused(NoWay, function, TREE, ("a", "b"), text)

    def test_what_is_handed_in_stays_as_it_was(self):
        tree = list(TREE)
        for function, text in itertools.product(ALL, ("a", "loop", "z/af", "r/x", "/", "")):
            plainmodel.outcome(function, tree, (), text)
            self.assertEqual(tree, TREE)

    def compare(self, tree, at, text):
        outcomes = []
        for function in ALL:
            told = plainmodel.outcome(function, tree, at, text)
            wanted = plainmodel.outcome(getattr(plainmodel, function.__name__), tree, at, text)
            self.assertEqual(told, wanted, (function.__name__, tree, at, text))
            outcomes.append(told)
        found, trail = outcomes[0], outcomes[3]
        if trail:
            self.assertEqual(found, trail if isinstance(trail, type) else trail[-1][2])

    def test_all_short_texts(self):
        words = ("a", "b", "f", "deep", "up", "loop", "z", "ra", "none", ".", "..")
        for count in (1, 2, 3):
            for chosen in itertools.product(words, repeat=count):
                self.compare(TREE, ("a",), "/".join(chosen))
                self.compare(TREE, ("a",), "/" + "/".join(chosen))

    def test_many_trees(self):
        rng = random.Random(81)
        for turn in range(3000):
            tree = linked_tree(rng, turns=rng.randint(0, 14))
            folders = [()] + [entry[0] for entry in tree if entry[1] == "folder"]
            self.compare(tree, rng.choice(folders), random_text(rng, 6))

    def test_trees_of_links(self):
        rng = random.Random(82)
        names = ("a", "ab", "b", "c", "d", "e")
        texts = [text for text in LINK_TEXTS if "0" not in text] + ["c", "d", "/e", "/a/c", "e/d"]
        for turn in range(2000):
            tree = [folder("/a"), link("/a/c", rng.choice(texts)), link("/a/d", rng.choice(texts))]
            tree = sorted(tree + [link(f"/{name}", rng.choice(texts)) for name in names[1:]])
            self.compare(tree, (), random_text(rng, 8, names))


if __name__ == "__main__":
    unittest.main()
