import unittest

import model
from glasslayers.errors import GlassError, Missing, NotFolder
from glasslayers.looking import listed, look, whence
from samples import FORTY, chain, file, folder, gone, link, random_panes, shut, wide_pane, wide_tree

WAYS = [(), ("a",), ("ab",), ("b",), ("a", "a"), ("a", "ab"), ("a", "b"), ("b", "a"), ("ab", "b", "a"),
        ("a", "a", "a"), ("a", "a", "a", "a"), ("a", "b", "a", "b", "a"), ("z",)]


class WhenceTest(unittest.TestCase):
    def test_its_own_entry(self):
        for entry in (file("/a", "x"), link("/a", "b"), folder("/a"), gone("/a"), shut("/a")):
            self.assertEqual(whence([[entry]], ("a",)), 0)
            self.assertEqual(whence([[], [entry], []], ("a",)), 1)
            self.assertIsNone(whence([[entry]], ("ab",)))
            self.assertIsNone(whence([[entry]], ()))

    def test_under_an_entry(self):
        for entry in (file("/a", "x"), link("/a", "b"), gone("/a"), shut("/a")):
            for way in (("a", "b"), ("a", "b", "c"), ("a",) * 40):
                self.assertEqual(whence([[entry]], way), 0)
            self.assertIsNone(whence([[entry]], ("ab", "c")))
        for way in (("a", "b"), ("a", "b", "c"), ("a",) * 40):
            self.assertIsNone(whence([[folder("/a")]], way))
        pane = [folder("/a"), shut("/a/b"), folder("/a/b/c")]
        self.assertEqual(whence([pane], ("a", "b", "c", "d")), 0)
        self.assertEqual(whence([pane], ("a", "b", "d")), 0)
        self.assertIsNone(whence([pane], ("a", "d")))

    def test_the_root(self):
        self.assertIsNone(whence([[file("/a")]], ()))
        self.assertEqual(whence([[shut("/")]], ()), 0)
        self.assertEqual(whence([[shut("/")]], ("a",)), 0)
        self.assertEqual(whence([[shut("/"), folder("/a")]], ("a", "b", "c")), 0)
        self.assertEqual(whence([[shut("/")], [file("/a")]], ()), 0)

    def test_the_greatest_number_is_told(self):
        panes = [[file("/a", "x")], [folder("/a")], [gone("/b")], [shut("/a")], [folder("/b"), file("/b/a")]]
        self.assertEqual(whence(panes, ("a",)), 3)
        self.assertEqual(whence(panes, ("a", "b")), 3)
        self.assertEqual(whence(panes[:3], ("a", "b")), 0)
        self.assertEqual(whence(panes, ("b",)), 4)
        self.assertEqual(whence(panes, ("b", "b")), 2)
        self.assertIsNone(whence(panes, ("c",)))
        self.assertIsNone(whence(panes, ()))

    def test_no_panes(self):
        for way in WAYS:
            self.assertIsNone(whence([], way))
            self.assertIsNone(whence([[], []], way))

    def test_many_lists_against_the_words_of_the_document(self):
        panes = random_panes(31, 400, turns=8)
        for number in range(0, 390, 2):
            some = panes[number:number + number % 8]
            for way in WAYS:
                found = [place for place, pane in enumerate(some) if not model.silent(pane, way)]
                self.assertEqual(whence(some, way), found[-1] if found else None)

    def test_great_lists(self):
        panes = [wide_pane()] + [wide_tree()] * 98 + [chain(39)]
        self.assertEqual(whence(panes, FORTY), 98)
        self.assertEqual(whence(panes, FORTY[:39]), 99)
        self.assertEqual(whence(panes, FORTY[:39] + ("w360",)), 0)
        self.assertIsNone(whence(panes, FORTY[:39] + ("x",)))

    def test_what_is_handed_in_stays_as_it_was(self):
        panes = [[file("/a")], [gone("/b")]]
        whence(panes, ("a",))
        self.assertEqual(panes, [[file("/a")], [gone("/b")]])

    def test_arguments(self):
        self.assertEqual(whence(way=("a",), panes=[[gone("/a")]]), 0)


class LookTest(unittest.TestCase):
    PANES = [
        [folder("/a"), file("/a/b", "x"), file("/a/c", "y"), link("/b", "/a"), file("/c", "z")],
        [folder("/a"), gone("/a/b"), shut("/d"), file("/d/e", "e")],
        [file("/c", "new"), folder("/e")],
    ]

    def test_look(self):
        self.assertEqual(look(self.PANES, ("c",)), ("file", "new"))
        self.assertEqual(look(self.PANES, ("a", "c")), ("file", "y"))
        self.assertEqual(look(self.PANES, ("b",)), ("link", "/a"))
        self.assertEqual(look(self.PANES, ("a",)), ("folder", ""))
        self.assertEqual(look(self.PANES, ("d",)), ("folder", ""))
        self.assertEqual(look(self.PANES, ("d", "e")), ("file", "e"))
        self.assertIsNone(look(self.PANES, ("a", "b")))
        self.assertIsNone(look(self.PANES, ("b", "c")))
        self.assertIsNone(look(self.PANES, ("z",)))
        self.assertIs(type(look(self.PANES, ("a",))), tuple)

    def test_the_root(self):
        for panes in ([], [[]], self.PANES, [[shut("/")]]):
            self.assertEqual(look(panes, ()), ("folder", ""))
        self.assertIsNone(look([], ("a",)))

    def test_listed(self):
        self.assertEqual(listed(self.PANES, ()), ["a", "b", "c", "d", "e"])
        self.assertEqual(listed(self.PANES, ("a",)), ["c"])
        self.assertEqual(listed(self.PANES, ("d",)), ["e"])
        self.assertEqual(listed(self.PANES, ("e",)), [])
        self.assertEqual(listed([], ()), [])
        self.assertEqual(listed(self.PANES + [[shut("/")]], ()), [])

    def refusal(self, panes, way):
        with self.assertRaises(GlassError) as caught:
            listed(panes, way)
        return type(caught.exception)

    def test_refusals(self):
        for way in (("z",), ("a", "b"), ("a", "b", "c"), ("c", "c"), ("ab",)):
            self.assertIs(self.refusal(self.PANES, way), Missing)
        for way in (("b",), ("c",), ("a", "c"), ("d", "e")):
            self.assertIs(self.refusal(self.PANES, way), NotFolder)
        self.assertIs(self.refusal([], ("a",)), Missing)

    def test_many_lists_against_what_is_seen(self):
        panes = random_panes(32, 200, turns=8)
        for number in range(0, 190, 2):
            some = panes[number:number + number % 6]
            tree = model.seen(some)
            things = {entry[0]: entry[1:] for entry in tree}
            for way in WAYS[1:]:
                thing = look(some, way)
                self.assertEqual(thing, things.get(way))
                if thing is None:
                    self.assertIs(self.refusal(some, way), Missing)
                elif thing[0] != "folder":
                    self.assertIs(self.refusal(some, way), NotFolder)
                else:
                    names = [entry[0][-1] for entry in tree if entry[0][:-1] == way]
                    self.assertEqual(listed(some, way), names)

    def test_great_lists(self):
        panes = [wide_tree()] * 99 + [chain(39)]
        self.assertEqual(look(panes, FORTY), ("folder", ""))
        self.assertEqual(len(listed(panes, FORTY[:39])), 361)

    def test_lists(self):
        panes = [[file("/a"), folder("/b"), file("/b/c")]]
        told = listed(panes, ())
        told.append("x")
        look(panes, ("a",))
        self.assertEqual(listed(panes, ()), ["a", "b"])
        self.assertEqual(panes, [[file("/a"), folder("/b"), file("/b/c")]])

    def test_arguments(self):
        self.assertEqual(look(way=("c",), panes=self.PANES), ("file", "new"))
        self.assertEqual(listed(way=("a",), panes=self.PANES), ["c"])


if __name__ == "__main__":
    unittest.main()
