import itertools
import unittest

import model
from glasslayers.laying import laid, seen
from glasslayers.panes import is_pane
from glasslayers.pressing import press, pressed
from samples import (
    chain, deep_panes, file, folder, gone, link, random_panes, random_trees, shut, trees_along, wide_pane, wide_tree,
)

MARKS = {"file": file("/a", "u"), "link": link("/a", "u"), "folder": folder("/a"), "gone": gone("/a"), "shut": shut("/a")}
LOWER = dict(MARKS, file=file("/a", "l"), link=link("/a", "l"))
FIVE_KINDS = [("file", "x"), ("link", "b"), ("folder", ""), ("gone", ""), ("shut", "")]
# The last name is one that no pane has, so that what a folder keeps is seen.
DEEP_TREES = trees_along(
    [("a",), ("a", "a"), ("a", "a", "a"), ("a", "a", "a", "a"), ("a", "a", "b"), ("a", "b"), ("b",)],
    [("file", "z"), ("folder", "")])


class PressTest(unittest.TestCase):
    def test_each_mark_over_each_mark(self):
        for upper, lower in itertools.product(MARKS, LOWER):
            wanted = MARKS[upper]
            if upper == "folder" and lower != "folder":
                wanted = shut("/a")
            self.assertEqual(press([MARKS[upper]], [LOWER[lower]]), [wanted], (upper, lower))

    def test_each_mark_over_none(self):
        for mark in MARKS:
            self.assertEqual(press([MARKS[mark]], []), [MARKS[mark]])
            self.assertEqual(press([], [LOWER[mark]]), [LOWER[mark]])
            self.assertEqual(press([MARKS[mark]], [file("/b")]), [MARKS[mark], file("/b")])

    def test_the_lower_ones_entries_under_an_entry(self):
        lower = [folder("/a"), gone("/a/b"), folder("/a/c"), file("/a/c/d", "x"), file("/ab")]
        self.assertEqual(press([folder("/a")], lower), lower)
        self.assertEqual(press([folder("/a"), file("/a/z")], lower), lower[:4] + [file("/a/z")] + lower[4:])
        for entry in (file("/a", "x"), link("/a", "b"), gone("/a"), shut("/a")):
            self.assertEqual(press([entry], lower), [entry, file("/ab")])

    def test_under_a_shut_entry_of_the_lower_one(self):
        lower = [shut("/a"), file("/a/b", "l")]
        for mark, changed in (("gone", None), ("shut", "folder"), ("folder", "folder")):
            upper = [folder("/a"), (("a", "b"), mark, ""), (("a", "c"), mark, "")]
            wanted = [shut("/a")] + [(("a", name), changed, "") for name in "bc" if changed]
            self.assertEqual(press(upper, lower), wanted, mark)
        self.assertEqual(
            press([folder("/a"), file("/a/b", "u")], lower), [shut("/a"), file("/a/b", "u")])
        self.assertEqual(
            press([folder("/a"), link("/a/c", "u")], lower), lower + [link("/a/c", "u")])

    def test_deep_under_a_shut_entry_of_the_lower_one(self):
        lower = [shut("/a"), folder("/a/b"), file("/a/b/c", "l")]
        upper = [folder("/a"), folder("/a/b"), gone("/a/b/c"), shut("/a/b/d"), file("/a/b/d/e", "u")]
        self.assertEqual(
            press(upper, lower), [shut("/a"), folder("/a/b"), folder("/a/b/d"), file("/a/b/d/e", "u")])

    def test_under_a_gone_file_or_link_entry_of_the_lower_one(self):
        upper = [folder("/a"), file("/a/b", "u"), gone("/a/c"), shut("/a/d"), link("/a/d/e", "u"), folder("/a/f")]
        wanted = [shut("/a"), file("/a/b", "u"), folder("/a/d"), link("/a/d/e", "u"), folder("/a/f")]
        for entry in (gone("/a"), file("/a", "l"), link("/a", "l"), shut("/a")):
            self.assertEqual(press(upper, [entry]), wanted, entry)

    def test_under_a_shut_entry_of_the_upper_one(self):
        upper = [shut("/a"), folder("/a/b"), file("/a/c", "u")]
        for entry in (gone("/a/b"), file("/a/b", "l"), link("/a/b", "l"), shut("/a/b"), folder("/a/b")):
            self.assertEqual(press(upper, [folder("/a"), entry, file("/a/d", "l")]), upper, entry)
        self.assertEqual(press(upper, [shut("/a"), file("/a/b")]), [shut("/a")] + upper[1:])

    def test_the_roots_shut(self):
        upper = [folder("/a"), gone("/a/b"), gone("/b"), shut("/c"), file("/c/d", "u"), file("/d", "u")]
        wanted = [shut("/"), folder("/a"), folder("/c"), file("/c/d", "u"), file("/d", "u")]
        self.assertEqual(press(upper, [shut("/")]), wanted)
        self.assertEqual(press(upper, [shut("/"), file("/z", "l")]), wanted + [file("/z", "l")])
        self.assertEqual(press([], [shut("/"), file("/z", "l")]), [shut("/"), file("/z", "l")])
        top = [shut("/"), folder("/a")]
        for lower in ([], [shut("/")], [shut("/"), file("/a")], [gone("/a"), gone("/b")], [file("/a")], [shut("/a")]):
            self.assertEqual(press(top, lower), top)

    def test_small_panes_against_the_words_of_the_document(self):
        panes = deep_panes(FIVE_KINDS)
        for upper, lower in itertools.product(panes, panes):
            told = press(upper, lower)
            self.assertIs(is_pane(told), True)
            self.assertEqual(told, model.press(upper, lower), (upper, lower))

    def test_small_panes_show_what_the_two_show(self):
        panes = deep_panes([("file", "x"), ("folder", ""), ("gone", ""), ("shut", "")])
        below = {number: [model.laid(pane, tree) for tree in DEEP_TREES] for number, pane in enumerate(panes)}
        for upper in panes:
            for number, lower in enumerate(panes):
                told = press(upper, lower)
                for tree, shown in zip(DEEP_TREES[::3], below[number][::3]):
                    self.assertEqual(model.laid(told, tree), model.laid(upper, shown))

    def test_many_panes_show_what_the_two_show(self):
        panes, trees = random_panes(41, 60, turns=12), random_trees(42, 12, turns=14)
        for upper, lower in itertools.product(panes, panes):
            told = press(upper, lower)
            self.assertIs(is_pane(told), True)
            for tree in trees:
                self.assertEqual(laid(told, tree), laid(upper, laid(lower, tree)))

    def test_no_other_pane_does(self):
        panes = deep_panes([("file", "x"), ("folder", ""), ("gone", ""), ("shut", "")])
        shows = {}
        for pane in panes:
            shown = tuple([tuple(model.laid(pane, tree)) for tree in DEEP_TREES])
            self.assertNotIn(shown, shows)
            shows[shown] = pane
        for upper, lower in itertools.product(panes[::3], panes):
            shown = tuple([tuple(model.laid(upper, model.laid(lower, tree))) for tree in DEEP_TREES])
            self.assertEqual(shows[shown], press(upper, lower))

    def test_great_panes(self):
        self.assertEqual(press(wide_pane(), wide_tree()), model.press(wide_pane(), wide_tree()))
        self.assertEqual(press(wide_tree(), wide_pane()), model.press(wide_tree(), wide_pane()))
        self.assertEqual(press(chain(40, "gone"), chain(20, "shut")), chain(20, "shut") + chain(39)[20:])
        self.assertEqual(press(chain(40), chain(40, "gone")), chain(40, "shut"))
        self.assertEqual(press([shut("/")], wide_pane()), [shut("/")])

    def test_lists(self):
        upper, lower = [folder("/a"), gone("/a/b")], [shut("/a"), file("/a/b")]
        told = press(upper, lower)
        told.append("x")
        self.assertEqual((upper, lower), ([folder("/a"), gone("/a/b")], [shut("/a"), file("/a/b")]))
        self.assertEqual(press(upper, lower), [shut("/a")])
        self.assertIsNot(press(upper, []), upper)
        self.assertIsNot(press([], lower), lower)

    def test_arguments(self):
        self.assertEqual(press(lower=[gone("/a")], upper=[file("/a")]), [file("/a")])


class PressedTest(unittest.TestCase):
    def test_none_and_one(self):
        self.assertEqual(pressed([]), [])
        self.assertEqual(pressed([[]]), [])
        for pane in deep_panes():
            self.assertEqual(pressed([pane]), pane)

    def test_several(self):
        panes = [[file("/a", "x")], [gone("/a")], [folder("/a"), file("/a/b", "y")]]
        self.assertEqual(pressed(panes), [shut("/a"), file("/a/b", "y")])
        self.assertEqual(pressed(panes[:2]), [gone("/a")])
        self.assertEqual(pressed([[], panes[0], []]), panes[0])

    def test_many_lists(self):
        panes, trees = random_panes(43, 300, turns=8), random_trees(44, 5, turns=12)
        for number in range(0, 290, 2):
            some = panes[number:number + number % 9]
            told = pressed(some)
            self.assertIs(is_pane(told), True)
            self.assertEqual(laid(told, []), seen(some))
            for tree in trees:
                shown = tree
                for pane in some:
                    shown = model.laid(pane, shown)
                self.assertEqual(laid(told, tree), shown)

    def test_a_hundred_panes(self):
        panes = [[file(f"/f{number:02}", "x")] for number in range(100)]
        self.assertEqual(pressed(panes), [file(f"/f{number:02}", "x") for number in range(100)])
        self.assertEqual(pressed([wide_tree()] * 99 + [wide_pane()]), model.press(wide_pane(), wide_tree()))

    def test_lists(self):
        panes = [[file("/a")], [gone("/a")]]
        told = pressed(panes)
        told.append("x")
        self.assertEqual(panes, [[file("/a")], [gone("/a")]])
        self.assertEqual(pressed(panes), [gone("/a")])
        self.assertIsNot(pressed(panes[:1]), panes[0])

    def test_argument(self):
        self.assertEqual(pressed(panes=[[gone("/a")]]), [gone("/a")])


if __name__ == "__main__":
    unittest.main()
