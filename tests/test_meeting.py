import itertools
import unittest

import model
from glasslayers.errors import GlassError, NoPane
from glasslayers.laying import laid, seen
from glasslayers.meeting import meet, sunk
from glasslayers.pressing import press
from glasslayers.trees import thing_at
from samples import (
    FORTY, chain, deep_panes, file, folder, gone, link, random_panes, random_trees, shut, trees_along, wide_pane,
    wide_tree,
)

KINDS = [("file", "x"), ("folder", ""), ("gone", ""), ("shut", "")]
DEEP_TREES = trees_along(
    [("a",), ("a", "a"), ("a", "a", "a"), ("a", "a", "a", "a"), ("a", "a", "b"), ("a", "b"), ("b",)],
    [("file", "z"), ("folder", "")])[::4]


class MeetTest(unittest.TestCase):
    def check(self, upper, lower, wanted):
        """`wanted` is a pair of the upper and the lower pane's entry, or None."""
        kept = (list(upper), list(lower))
        self.assertEqual(meet(upper, lower), wanted)
        self.assertEqual(meet(lower, upper), wanted and (wanted[1], wanted[0]))
        self.assertEqual((upper, lower), kept)

    def test_the_same_way(self):
        kinds = [file("/a", "1"), file("/a", "2"), link("/a", "1"), link("/a", "2"), gone("/a"), folder("/a"), shut("/a")]
        for one, other in itertools.product(kinds, kinds):
            folders = one[1] in ("folder", "shut") and other[1] in ("folder", "shut")
            self.check([one], [other], None if one == other or folders else (one, other))

    def test_other_ways(self):
        kinds = [file("/a", "1"), link("/a", "1"), gone("/a"), folder("/a"), shut("/a")]
        for one in kinds:
            self.check([one], [], None)
            for other in (file("/ab"), gone("/b"), shut("/ab"), folder("/0")):
                self.check([one], [other], None)

    def test_under_a_shut_entry_whose_pane_has_not_the_way(self):
        top = [shut("/a")]
        for entry in (file("/a/b", "x"), link("/a/b", "x"), folder("/a/b"), shut("/a/b")):
            self.check(top, [folder("/a"), entry], (top[0], entry))
        self.check(top, [folder("/a"), gone("/a/b")], None)
        self.check(top, [folder("/a")], None)
        self.check(top, [folder("/a"), folder("/a/b"), file("/a/b/c")], (top[0], folder("/a/b")))
        self.check(top, [shut("/a"), file("/a/b")], (top[0], file("/a/b")))

    def test_under_a_shut_entry_whose_pane_has_the_way(self):
        top = [shut("/a"), file("/a/b", "x")]
        self.check(top, [folder("/a"), file("/a/b", "x")], None)
        self.check(top, [folder("/a")], None)
        self.check(top, [folder("/a"), file("/a/b", "y")], (top[1], file("/a/b", "y")))
        self.check(top, [folder("/a"), gone("/a/b")], (top[1], gone("/a/b")))
        top = [shut("/a"), folder("/a/b")]
        self.check(top, [folder("/a"), shut("/a/b")], None)
        self.check(top, [folder("/a"), folder("/a/b"), gone("/a/b/c")], None)
        self.check(top, [folder("/a"), folder("/a/b"), file("/a/b/c")], (top[0], file("/a/b/c")))
        self.check(top, [folder("/a"), shut("/a/b"), file("/a/b/c")], (top[0], file("/a/b/c")))

    def test_two_shut_entries(self):
        self.check([shut("/a"), file("/a/b")], [shut("/a"), file("/a/b")], None)
        self.check([shut("/a"), file("/a/b")], [shut("/a")], (file("/a/b"), shut("/a")))
        self.check([shut("/a"), file("/a/b")], [shut("/a"), file("/a/c")], (file("/a/b"), shut("/a")))
        self.check([shut("/a"), file("/a/c")], [shut("/a"), file("/a/b")], (shut("/a"), file("/a/b")))

    def test_the_roots_shut(self):
        root = [shut("/")]
        self.check(root, [], None)
        self.check(root, [shut("/")], None)
        self.check(root, [gone("/a")], None)
        for entry in (file("/a", "x"), link("/a", "x"), folder("/a"), shut("/a")):
            self.check(root, [entry], (root[0], entry))
        self.check(root + [folder("/a")], [shut("/a")], None)
        self.check(root + [folder("/a")], [folder("/a"), gone("/a/b")], None)
        self.check(root + [folder("/a")], [folder("/a"), file("/a/b")], (root[0], file("/a/b")))
        self.check(root + [file("/a")], [gone("/a")], (file("/a"), gone("/a")))

    def test_the_first_of_several_places(self):
        upper = [shut("/b"), file("/c", "u"), gone("/d")]
        lower = [folder("/b"), gone("/b/a"), file("/b/b"), file("/c", "l"), file("/d")]
        self.check(upper, lower, (shut("/b"), file("/b/b")))
        self.check(upper, lower[:2] + lower[3:], (file("/c", "u"), file("/c", "l")))
        self.check([gone("/a")] + upper, [link("/a", "x")] + lower, (gone("/a"), link("/a", "x")))
        self.check([folder("/a"), file("/a/b", "u")], [folder("/a"), file("/a/b"), file("/ab")], (
            file("/a/b", "u"), file("/a/b")))

    def test_kinds(self):
        told = meet([file("/a", "x")], [gone("/a")])
        self.assertIs(type(told), tuple)
        self.assertEqual([type(entry) for entry in told], [tuple, tuple])

    def test_small_panes_against_the_words_of_the_document(self):
        panes = deep_panes()
        for upper, lower in itertools.product(panes, panes):
            found = model.meetings(upper, lower)
            self.assertEqual(meet(upper, lower), found[0][1:] if found else None, (upper, lower))
            self.assertEqual(len({place for place, one, other in found}), len(found))

    def check_orders(self, upper, lower, trees):
        pair = meet(upper, lower)
        if pair is None:
            self.assertEqual(press(upper, lower), press(lower, upper))
        place = pair and max(pair[0][0], pair[1][0], key=len)
        for tree in trees:
            one, other = laid(upper, laid(lower, tree)), laid(lower, laid(upper, tree))
            if pair is None:
                self.assertEqual(one, other)
            else:
                self.assertNotEqual(thing_at(one, place), thing_at(other, place), (upper, lower, tree))

    def test_what_small_panes_show_in_either_order(self):
        panes = deep_panes(KINDS)
        for upper, lower in itertools.combinations(panes, 2):
            self.check_orders(upper, lower, DEEP_TREES)

    def test_what_many_panes_show_in_either_order(self):
        panes, trees = random_panes(71, 70, turns=5), random_trees(72, 8, turns=14) + [[]]
        met = []
        for upper, lower in itertools.product(panes, panes):
            found = model.meetings(upper, lower)
            self.assertEqual(meet(upper, lower), found[0][1:] if found else None)
            self.check_orders(upper, lower, trees)
            met.append(bool(found))
        self.assertGreater(min(met.count(True), met.count(False)), 300)

    def test_great_panes(self):
        self.check(wide_pane(), wide_pane(), None)
        found = model.meetings(wide_pane(), wide_tree())
        self.check(wide_pane(), wide_tree(), found[0][1:])
        self.check(chain(40), chain(40), None)
        self.check(chain(40), chain(1, "shut"), (chain(40)[1], chain(1, "shut")[0]))
        self.check(chain(39) + [(FORTY, "gone", "")], chain(39, "shut"), None)
        self.check(chain(39) + [(FORTY, "file", "")], chain(39, "shut"), ((FORTY, "file", ""), chain(39, "shut")[38]))
        self.check(chain(40, "gone"), chain(39) + [(FORTY, "file", "")], ((FORTY, "gone", ""), (FORTY, "file", "")))

    def test_arguments(self):
        self.assertEqual(meet(lower=[gone("/a")], upper=[file("/a")]), (file("/a"), gone("/a")))


class SunkTest(unittest.TestCase):
    A, B, C = [file("/a", "x")], [file("/b", "x")], [file("/c", "x")]
    NO_A = [gone("/a")]

    def test_to_the_bottom(self):
        self.assertEqual(sunk([self.A, self.B, self.C], 2), ([self.C, self.A, self.B], 0, None))
        self.assertEqual(sunk([self.A, self.B, self.C], 1), ([self.B, self.A, self.C], 0, None))
        self.assertEqual(sunk([[], [], self.A], 2), ([self.A, [], []], 0, None))

    def test_the_lowest_one(self):
        self.assertEqual(sunk([self.A], 0), ([self.A], 0, None))
        self.assertEqual(sunk([self.A, self.NO_A], 0), ([self.A, self.NO_A], 0, None))

    def test_by_some(self):
        pair = (gone("/a"), file("/a", "x"))
        self.assertEqual(sunk([self.B, self.A, self.C, self.NO_A], 3), ([self.B, self.A, self.NO_A, self.C], 2, pair))
        self.assertEqual(sunk([self.A, self.B, self.C, self.NO_A], 3), ([self.A, self.NO_A, self.B, self.C], 1, pair))
        self.assertEqual(
            sunk([self.A, self.B, self.NO_A, self.C], 2), ([self.A, self.NO_A, self.B, self.C], 1, pair))

    def test_not_at_all(self):
        pair = (gone("/a"), file("/a", "x"))
        self.assertEqual(sunk([self.B, self.A, self.NO_A], 2), ([self.B, self.A, self.NO_A], 2, pair))
        self.assertEqual(sunk([self.A, self.NO_A, self.C], 1), ([self.A, self.NO_A, self.C], 1, pair))
        self.assertEqual(
            sunk([[folder("/a"), file("/a/b")], [shut("/a")]], 1),
            ([[folder("/a"), file("/a/b")], [shut("/a")]], 1, (shut("/a"), file("/a/b"))))

    def test_no_number_of_a_pane(self):
        panes = [self.A, self.B, self.C]
        for k in (-1, -2, -3, -4, 3, 4, 100, 10 ** 299, -10 ** 299):
            with self.assertRaises(GlassError) as caught:
                sunk(panes, k)
            self.assertIs(type(caught.exception), NoPane)
        for k in (0, 1, -1):
            self.assertRaises(NoPane, sunk, [], k)
        self.assertEqual(panes, [self.A, self.B, self.C])

    def test_many_lists(self):
        panes = random_panes(73, 400, turns=3)
        for number in range(0, 380, 2):
            some = panes[number:number + 1 + number % 9]
            kept = [list(pane) for pane in some]
            for k in range(len(some)):
                told, place, pair = sunk(some, k)
                self.assertEqual(some, kept)
                self.assertEqual(told, some[:place] + [some[k]] + some[place:k] + some[k + 1:])
                self.assertEqual(seen(told), seen(some))
                for other in some[place:k]:
                    self.assertEqual(model.meetings(some[k], other), [])
                self.assertEqual(pair, meet(some[k], some[place - 1]) if place else None)
                self.assertIs(pair is None, place == 0)

    def test_a_hundred_panes(self):
        panes = [[file(f"/f{number:02}", "x")] for number in range(100)]
        self.assertEqual(sunk(panes, 99), ([panes[99]] + panes[:99], 0, None))
        panes = [wide_tree()] * 50 + [wide_pane()] * 50
        self.assertEqual(sunk(panes, 99)[1:], (50, meet(wide_pane(), wide_tree())))

    def test_lists(self):
        panes = [[file("/a")], [file("/b")]]
        told, place, pair = sunk(panes, 1)
        told[0].append("x")
        told[1].append("x")
        told.append([])
        self.assertEqual(panes, [[file("/a")], [file("/b")]])
        self.assertEqual(sunk(panes, 1), ([[file("/b")], [file("/a")]], 0, None))
        self.assertIs(type(sunk(panes, 0)), tuple)
        one = sunk(panes, 0)[0]
        self.assertIsNot(one[0], panes[0])
        self.assertIsNot(one[1], panes[1])

    def test_arguments(self):
        self.assertEqual(sunk(k=0, panes=[[]]), ([[]], 0, None))


if __name__ == "__main__":
    unittest.main()
