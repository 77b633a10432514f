import random
import unittest

import plainmodel
from glasslayers.deedpanes import pane_of
from glasslayers.deeds import done
from glasslayers.errors import (
    Astray, Crowded, GlassError, InItself, IsFolder, IsThere, Missing, NoPlace, NotEmpty, NotFolder, NoWay, TooDeep,
)
from glasslayers.laying import laid
from glasslayers.panes import is_pane
from samples import FORTY, chain, file, folder, gone, link, linked_tree, random_deed, wide_tree

TREE = [
    folder("/a"), folder("/a/b"), file("/a/b/f", "text"), folder("/a/e"), file("/f", "x"), link("/la", "a"),
    link("/lf", "a/b/f"), link("/loop", "loop"), link("/new", "a/e/n"),
]


class PaneOfTest(unittest.TestCase):
    def check(self, deed, wanted):
        tree = list(TREE)
        told = pane_of(tree, deed)
        self.assertEqual(told, wanted, deed)
        self.assertIs(is_pane(told), True)
        self.assertEqual(laid(told, tree), done(tree, deed))
        self.assertEqual(tree, TREE)

    def test_write(self):
        self.check(("write", "f", "new"), [file("/f", "new")])
        self.check(("write", "f", "x"), [file("/f", "x")])
        self.check(("write", "n", "new"), [file("/n", "new")])
        self.check(("write", "a/b/f", "new"), [folder("/a"), folder("/a/b"), file("/a/b/f", "new")])
        self.check(("write", "lf", "new"), [folder("/a"), folder("/a/b"), file("/a/b/f", "new")])
        self.check(("write", "new", "t"), [folder("/a"), folder("/a/e"), file("/a/e/n", "t")])

    def test_add(self):
        self.check(("add", "f", "new"), [file("/f", "xnew")])
        self.check(("add", "f", ""), [file("/f", "x")])
        self.check(("add", "lf", " "), [folder("/a"), folder("/a/b"), file("/a/b/f", "text ")])

    def test_folder_and_link(self):
        self.check(("folder", "n"), [folder("/n")])
        self.check(("folder", "la/e/n"), [folder("/a"), folder("/a/e"), folder("/a/e/n")])
        self.check(("link", "n", "../x"), [link("/n", "../x")])
        self.check(("link", "a/n", "/"), [folder("/a"), link("/a/n", "/")])

    def test_drop_and_sweep(self):
        self.check(("drop", "f"), [gone("/f")])
        self.check(("drop", "la"), [gone("/la")])
        self.check(("drop", "a/e"), [folder("/a"), gone("/a/e")])
        self.check(("sweep", "f"), [gone("/f")])
        self.check(("sweep", "a"), [gone("/a")])
        self.check(("sweep", "la/b"), [folder("/a"), gone("/a/b")])

    def test_move(self):
        self.check(("move", "f", "g"), [gone("/f"), file("/g", "x")])
        self.check(("move", "f", "a/e/g"), [folder("/a"), folder("/a/e"), file("/a/e/g", "x"), gone("/f")])
        self.check(("move", "a/b/f", "0"), [file("/0", "text"), folder("/a"), folder("/a/b"), gone("/a/b/f")])
        self.check(("move", "a/b", "a/e/c"), [
            folder("/a"), gone("/a/b"), folder("/a/e"), folder("/a/e/c"), file("/a/e/c/f", "text")])
        self.check(("move", "a", "z"), [
            gone("/a"), folder("/z"), folder("/z/b"), file("/z/b/f", "text"), folder("/z/e")])
        self.check(("move", "lf", "la/l"), [folder("/a"), link("/a/l", "a/b/f"), gone("/lf")])

    def test_copy(self):
        self.check(("copy", "f", "g"), [file("/g", "x")])
        self.check(("copy", "a/b/f", "0"), [file("/0", "text")])
        self.check(("copy", "a/b", "a/e/c"), [folder("/a"), folder("/a/e"), folder("/a/e/c"), file("/a/e/c/f", "text")])
        self.check(("copy", "a", "z"), [folder("/z"), folder("/z/b"), file("/z/b/f", "text"), folder("/z/e")])
        self.check(("copy", "lf", "a/l"), [folder("/a"), link("/a/l", "a/b/f")])

    def test_refused_as_the_deed_is(self):
        crowd = [file(f"/w{number:02}") for number in range(60)]
        for tree, deed, refusal in (
            (TREE, ("write", "a", "x"), IsFolder), (TREE, ("write", "x/y", "x"), Missing),
            (TREE, ("add", "a", "x"), IsFolder), (TREE, ("add", "x", "x"), Missing), (TREE, ("add", "f/.", "x"), NotFolder),
            (TREE, ("folder", "f"), IsThere), (TREE, ("folder", "/"), NoPlace), (TREE, ("folder", ""), NoWay),
            (TREE, ("link", "n", ""), NoWay), (TREE, ("link", "a", "x"), IsThere), (TREE, ("drop", "a"), NotEmpty),
            (TREE, ("drop", "x"), Missing), (TREE, ("sweep", "x"), Missing), (TREE, ("sweep", "loop/x"), Astray),
            (TREE, ("move", "a", "a/b/c"), InItself), (TREE, ("move", "a", "f"), IsThere),
            (TREE, ("copy", "f", "x/y"), Missing), (chain(12), ("folder", "/".join(FORTY[:13])), TooDeep),
            (crowd, ("copy", "w00", "z"), Crowded), (crowd, ("write", "z", ""), Crowded),
        ):
            kept = list(tree)
            with self.assertRaises(GlassError, msg=deed) as caught:
                pane_of(tree, deed)
            self.assertIs(type(caught.exception), refusal, deed)
            self.assertEqual(tree, kept)

    def test_many_deeds(self):
        rng = random.Random(101)
        for turn in range(3000):
            tree, deed = linked_tree(rng, turns=rng.randint(4, 16)), random_deed(rng)
            told = plainmodel.outcome(pane_of, tree, deed)
            wanted = plainmodel.outcome(plainmodel.done, tree, deed)
            if isinstance(wanted, type):
                self.assertIs(told, wanted)
            else:
                self.assertIs(is_pane(told), True)
                self.assertEqual(laid(told, tree), wanted)

    def test_great_trees(self):
        text = "/".join(FORTY[:39])
        self.assertEqual(pane_of(wide_tree(), ("sweep", text)), chain(39, "gone"))
        told = pane_of(wide_tree(), ("move", text, "z"))
        self.assertEqual(len(told), 39 + 1 + 361)
        self.assertEqual(laid(told, wide_tree()), done(wide_tree(), ("move", text, "z")))

    def test_lists(self):
        told = pane_of(TREE, ("drop", "f"))
        told.append("x")
        self.assertEqual(pane_of(TREE, ("drop", "f")), [gone("/f")])

    def test_arguments(self):
        self.assertEqual(pane_of(deed=("folder", "a"), tree=[]), [folder("/a")])


if __name__ == "__main__":
    unittest.main()
