import unittest

import model
from glasslayers.errors import (
    Crowded, GlassError, IsFolder, IsThere, Missing, NoPane, NoPlace, NotEmpty, NoWay,
)
from glasslayers.glass import Glass
from glasslayers.meeting import sunk
from glasslayers.panes import is_pane
from samples import chain, file, folder, gone, link, random_panes, shut, wide_pane, wide_tree

LOW = [folder("/a"), folder("/a/b"), file("/a/b/f", "low"), file("/c", "low"), link("/l", "a/b")]
MID = [folder("/a"), gone("/a/b"), shut("/d"), file("/d/e", "mid")]
WRONG_NUMBERS = (-1, -2, -3, 3, 4, 100, 10 ** 299, -10 ** 299)


class Base(unittest.TestCase):
    def refused(self, glass, refusal, function, *handed):
        kept = glass.panes()
        with self.assertRaises(GlassError, msg=handed) as caught:
            function(*handed)
        self.assertIs(type(caught.exception), refusal, handed)
        self.assertEqual(glass.panes(), kept)


class DoTest(Base):
    def test_through_one_pane(self):
        glass = Glass([[]])
        self.assertIsNone(glass.do(("folder", "a")))
        self.assertEqual(glass.panes(), [[folder("/a")]])
        glass.do(("write", "a/f", "x"))
        self.assertEqual(glass.panes(), [[folder("/a"), file("/a/f", "x")]])
        glass.do(("add", "a/f", "y"))
        glass.do(("move", "a", "b"))
        self.assertEqual(glass.panes(), [[gone("/a"), folder("/b"), file("/b/f", "xy")]])
        self.assertEqual(glass.seen(), [folder("/b"), file("/b/f", "xy")])
        glass.do(("folder", "a"))
        self.assertEqual(glass.panes(), [[shut("/a"), folder("/b"), file("/b/f", "xy")]])

    def test_through_several_the_top_one_alone_is_changed(self):
        glass = Glass([LOW, MID, []])
        self.assertEqual(glass.seen(), [
            folder("/a"), file("/c", "low"), folder("/d"), file("/d/e", "mid"), link("/l", "a/b")])
        glass.do(("write", "c", "top"))
        self.assertEqual(glass.panes(), [LOW, MID, [file("/c", "top")]])
        glass.do(("drop", "d/e"))
        self.assertEqual(glass.panes(), [LOW, MID, [file("/c", "top"), folder("/d"), gone("/d/e")]])
        glass.do(("folder", "l2"))
        glass.do(("folder", "a/b"))
        self.assertEqual(glass.panes()[:2], [LOW, MID])
        self.assertEqual(glass.panes()[2], [
            folder("/a"), folder("/a/b"), file("/c", "top"), folder("/d"), gone("/d/e"), folder("/l2")])
        glass.do(("write", "l/f", "new"))
        self.assertEqual(glass.seen(), [
            folder("/a"), folder("/a/b"), file("/a/b/f", "new"), file("/c", "top"), folder("/d"), link("/l", "a/b"),
            folder("/l2")])

    def test_what_lay_under_a_swept_folder_stays_hidden(self):
        glass = Glass([LOW, []])
        glass.do(("sweep", "a"))
        self.assertEqual(glass.panes()[1], [gone("/a")])
        glass.do(("folder", "a"))
        self.assertEqual(glass.panes()[1], [shut("/a")])
        self.assertEqual(glass.seen(), [folder("/a"), file("/c", "low"), link("/l", "a/b")])
        glass.do(("folder", "a/b"))
        glass.do(("folder", "a/b/x"))
        glass.do(("drop", "a/b/x"))
        self.assertEqual(glass.panes()[1], [shut("/a"), folder("/a/b")])

    def test_refused_deeds_change_nothing(self):
        glass = Glass([LOW, MID])
        for deed, refusal in (
            (("write", "a", "x"), IsFolder), (("add", "x", "x"), Missing), (("folder", "c"), IsThere),
            (("link", "x", ""), NoWay), (("drop", "d"), NotEmpty), (("sweep", "a/b"), Missing),
            (("move", "c", "/"), NoPlace), (("copy", "l/f", "x"), Missing),
        ):
            self.refused(glass, refusal, glass.do, deed)
        glass = Glass([[file(f"/w{number:02}") for number in range(60)], []])
        self.refused(glass, Crowded, glass.do, ("folder", "z"))

    def test_no_panes(self):
        glass = Glass([])
        for deed in (("write", "a", "x"), ("write", "", "x"), ("add", "x", ""), ("folder", "/"), ("link", "a", ""),
                     ("drop", "x"), ("sweep", "x/y"), ("move", "x", "y"), ("copy", "//", "y")):
            self.refused(glass, NoPane, glass.do, deed)
        glass.lay()
        glass.do(("folder", "a"))
        glass.lift()
        self.refused(glass, NoPane, glass.do, ("folder", "a"))


class PanesTest(Base):
    def test_seen(self):
        self.assertEqual(Glass([]).seen(), [])
        self.assertEqual(Glass([[]]).seen(), [])
        self.assertEqual(Glass([LOW]).seen(), LOW)
        self.assertEqual(Glass([LOW, MID]).seen(), model.seen([LOW, MID]))

    def test_lay_and_lift(self):
        glass = Glass([LOW])
        self.assertIsNone(glass.lay())
        self.assertEqual(glass.panes(), [LOW, []])
        glass.lay()
        self.assertEqual(glass.panes(), [LOW, [], []])
        self.assertEqual(glass.seen(), LOW)
        self.assertEqual(glass.lift(), [])
        glass.do(("drop", "c"))
        self.assertEqual(glass.lift(), [gone("/c")])
        self.assertEqual(glass.panes(), [LOW])
        self.assertEqual(glass.lift(), LOW)
        self.assertEqual(glass.panes(), [])
        self.refused(glass, NoPane, glass.lift)
        self.refused(Glass([]), NoPane, Glass([]).lift)

    def test_weld(self):
        top = [folder("/a"), file("/a/b", "top"), gone("/d")]
        glass = Glass([LOW, MID, top])
        shown = glass.seen()
        self.assertIsNone(glass.weld(2))
        self.assertEqual(glass.panes(), [LOW, model.press(top, MID)])
        self.assertEqual(glass.seen(), shown)
        glass.weld(1)
        self.assertEqual(glass.panes(), [model.press(model.press(top, MID), LOW)])
        self.assertEqual(glass.seen(), shown)
        self.refused(glass, NoPane, glass.weld, 0)
        glass = Glass([LOW, MID, top])
        glass.weld(1)
        self.assertEqual(glass.panes(), [model.press(MID, LOW), top])

    def test_sink(self):
        top = [file("/z", "top")]
        glass = Glass([LOW, MID, top])
        self.assertEqual(glass.sink(2), (0, None))
        self.assertEqual(glass.panes(), [top, LOW, MID])
        self.assertEqual(glass.sink(2), (2, (gone("/a/b"), folder("/a/b"))))
        self.assertEqual(glass.panes(), [top, LOW, MID])
        self.assertEqual(glass.sink(0), (0, None))
        self.assertIs(type(glass.sink(1)), tuple)

    def test_trim(self):
        top = [folder("/a"), file("/c", "low"), gone("/x"), file("/y", "top")]
        glass = Glass([LOW, MID, top])
        shown = glass.seen()
        self.assertEqual(glass.trim(2), 1)
        self.assertEqual(glass.panes(), [LOW, MID, [file("/y", "top")]])
        self.assertEqual(glass.trim(1), 3)
        self.assertEqual(glass.panes()[1], [shut("/a"), folder("/d"), file("/d/e", "mid")])
        self.assertEqual(glass.panes(), [LOW, model.draw(LOW, model.laid(MID, LOW)), [file("/y", "top")]])
        self.assertEqual(glass.seen(), shown)
        glass = Glass([MID])
        self.assertEqual(glass.trim(0), 3)
        self.assertEqual(glass.panes(), [[folder("/a"), folder("/d"), file("/d/e", "mid")]])
        self.assertEqual(Glass([[gone("/a")]]).trim(0), 0)

    def test_numbers_that_are_none(self):
        glass = Glass([LOW, MID, [gone("/z")]])
        for k in WRONG_NUMBERS:
            self.refused(glass, NoPane, glass.weld, k)
            self.refused(glass, NoPane, glass.sink, k)
            self.refused(glass, NoPane, glass.trim, k)
        self.refused(glass, NoPane, glass.weld, 0)
        empty = Glass([])
        for k in (0, 1, -1):
            for function in (empty.weld, empty.sink, empty.trim):
                self.refused(empty, NoPane, function, k)

    def test_many_glasses(self):
        panes = random_panes(111, 300, turns=6)
        for number in range(0, 280, 3):
            some = panes[number:number + 1 + number % 6]
            shown = model.seen(some)
            for k in range(len(some)):
                glass = Glass(some)
                told = glass.sink(k)
                self.assertEqual((glass.panes(),) + told, sunk(some, k))
                self.assertEqual(glass.seen(), shown)
                glass = Glass(some)
                count = glass.trim(k)
                self.assertEqual(count, len(glass.panes()[k]))
                self.assertEqual(glass.panes()[k], model.draw(model.seen(some[:k]), model.seen(some[:k + 1])))
                self.assertEqual(glass.panes()[:k] + glass.panes()[k + 1:], some[:k] + some[k + 1:])
                self.assertEqual(glass.seen(), shown)
                if k:
                    glass = Glass(some)
                    glass.weld(k)
                    wanted = some[:k - 1] + [model.press(some[k], some[k - 1])] + some[k + 1:]
                    self.assertEqual(glass.panes(), wanted)
                    self.assertEqual(glass.seen(), shown)
                    self.assertTrue(all(is_pane(pane) for pane in glass.panes()))

    def test_great_glasses(self):
        glass = Glass([wide_tree()] * 99 + [wide_pane()])
        shown = model.laid(wide_pane(), wide_tree())
        self.assertEqual(glass.seen(), shown)
        glass.do(("drop", "/".join(shown[-1][0])))
        self.assertEqual(glass.seen(), shown[:-1])
        glass.weld(99)
        self.assertEqual(glass.trim(98) > 0, True)
        self.assertEqual(glass.seen(), shown[:-1])
        self.assertEqual(glass.sink(50), (0, None))
        self.assertEqual(Glass([chain(40)] * 100).seen(), chain(40))


class OwnTest(Base):
    def test_the_list_handed_in_is_copied(self):
        panes = [list(LOW), []]
        glass = Glass(panes)
        panes[0].clear()
        panes.append([gone("/a")])
        self.assertEqual(glass.panes(), [LOW, []])
        panes = [list(LOW), []]
        glass = Glass(panes)
        glass.do(("drop", "c"))
        glass.lay()
        glass.weld(1)
        glass.sink(1)
        glass.trim(0)
        self.assertEqual(panes, [LOW, []])

    def test_the_lists_told_are_the_askers_own(self):
        glass = Glass([LOW, MID])
        told = glass.panes()
        told[0].clear()
        told[1].append("x")
        told.pop()
        tree = glass.seen()
        tree.clear()
        self.assertEqual(glass.panes(), [LOW, MID])
        self.assertEqual(glass.seen(), model.seen([LOW, MID]))
        first, tree = glass.panes(), glass.seen()
        kept = ([list(pane) for pane in first], list(tree))
        glass.do(("sweep", "d"))
        glass.lay()
        glass.weld(1)
        self.assertEqual((first, tree), kept)
        glass = Glass([[file("/a")], [file("/b")]])
        lifted = glass.lift()
        lifted.append("x")
        self.assertEqual(glass.panes(), [[file("/a")]])

    def test_two_glasses_of_the_same_panes(self):
        panes = [LOW, []]
        one, other = Glass(panes), Glass(panes)
        one.do(("drop", "c"))
        one.lay()
        self.assertEqual(other.panes(), [LOW, []])
        third = Glass(one.panes())
        third.do(("folder", "z"))
        self.assertEqual(one.panes(), [LOW, [gone("/c")], []])

    def test_laid_panes_stay_apart(self):
        glass = Glass([])
        glass.lay()
        glass.lay()
        glass.do(("folder", "a"))
        self.assertEqual(glass.panes(), [[], [folder("/a")]])

    def test_arguments(self):
        glass = Glass(panes=[[], []])
        glass.do(deed=("folder", "a"))
        self.assertEqual(glass.sink(k=1), (0, None))
        self.assertEqual(glass.trim(k=1), 0)
        self.assertIsNone(glass.weld(k=1))


if __name__ == "__main__":
    unittest.main()
