import itertools
import unittest

from glasslayers.errors import GlassError, NoRow
from glasslayers.notes import read_pane, shown_pane
from glasslayers.panes import is_pane
from samples import FORTY, chain, deep_panes, file, folder, gone, link, random_panes, shut, wide_pane, wide_tree

PANE = [
    folder("/a"), gone("/a/b"), file("/a/c", ""), shut("/a/d"), link("/a/d/e", "../x"), file("/b", "some  text "),
    gone("/c"), link("/d", "/"),
]
TEXT = "\n".join([
    "folder /a", "gone /a/b", "file /a/c ", "shut /a/d", "link /a/d/e ../x", "file /b some  text ", "gone /c", "link /d /",
])


class ShownTest(unittest.TestCase):
    def test_each_mark(self):
        self.assertEqual(shown_pane([file("/a", "x")]), "file /a x")
        self.assertEqual(shown_pane([link("/a", "../b")]), "link /a ../b")
        self.assertEqual(shown_pane([folder("/a")]), "folder /a")
        self.assertEqual(shown_pane([gone("/a")]), "gone /a")
        self.assertEqual(shown_pane([shut("/a")]), "shut /a")
        self.assertEqual(shown_pane([shut("/")]), "shut /")
        self.assertEqual(shown_pane([]), "")

    def test_texts(self):
        self.assertEqual(shown_pane([file("/a", "")]), "file /a ")
        self.assertEqual(shown_pane([file("/a", " ")]), "file /a  ")
        self.assertEqual(shown_pane([file("/a", " x  y ")]), "file /a  x  y ")
        self.assertEqual(shown_pane([file("/a", "gone /b")]), "file /a gone /b")

    def test_several_entries(self):
        self.assertEqual(shown_pane(PANE), TEXT)
        self.assertEqual(shown_pane([shut("/")] + [folder("/a"), file("/a/b", "c")]), "shut /\nfolder /a\nfile /a/b c")

    def test_argument(self):
        self.assertEqual(shown_pane(pane=[gone("/a")]), "gone /a")


class ReadTest(unittest.TestCase):
    def refused(self, text):
        with self.assertRaises(GlassError, msg=repr(text[:200])) as caught:
            read_pane(text)
        self.assertIs(type(caught.exception), NoRow, text[:200])

    def test_ordinary_texts(self):
        self.assertEqual(read_pane(TEXT), PANE)
        self.assertEqual(read_pane(""), [])
        self.assertEqual(read_pane("shut /"), [shut("/")])
        self.assertEqual(read_pane("file /a "), [file("/a", "")])
        self.assertEqual(read_pane("file /a  x  y "), [file("/a", " x  y ")])
        self.assertEqual(read_pane("file /a /b"), [file("/a", "/b")])

    def test_written_panes_are_read_back(self):
        panes = deep_panes() + random_panes(121, 100, turns=14) + [wide_pane(), wide_tree(), chain(40), PANE]
        panes.append([file(f"/f{number:03}", "x" * 9000) for number in range(400)])
        for pane in panes:
            kept = list(pane)
            self.assertEqual(read_pane(shown_pane(pane)), kept)
            self.assertEqual(pane, kept)

    def test_rows_that_are_none(self):
        for text in (
            " ", "/", "a", "/a", "file", "file ", "file /a", "file  /a", "file /a/ x", "file a x", "file / x", "file //a x",
            "file /A x", "file /a/../b x", "file /. x", " file /a x", "File /a x", "files /a x", "link", "link /a",
            "link /a ", "link /a a//b", "link /a a b", "link /a a ", "link  /a a", "folder", "folder ", "folder /a ",
            "folder /a x", "folder a", "folder /", "folder  /a", "folder /a/", "gone", "gone /", "gone /a ", "gone a",
            "gone /a x", "shut", "shut ", "shut / ", "shut /a ", "shut a", "shut /a b", "open /a", "open /a x", "root /",
            "folder/a", "file/a x", "folder /" + "a" * 13, "folder /a b", "folder /.", "gone /..",
        ):
            self.refused(text)

    def test_line_feeds(self):
        for text in ("\n", "\n\n", "gone /a\n", "\ngone /a", "gone /a\n\ngone /b", TEXT + "\n", "\n" + TEXT,
                     TEXT.replace("\n", "\n\n", 1), "gone\n/a", "gone /a\n ", "file /a x\n\n"):
            self.refused(text)

    def test_rows_that_make_no_pane(self):
        for text in (
            "gone /b\ngone /a", "gone /a\ngone /a", "file /a/b x", "file /a x\nfile /a/b x", "gone /a\nfile /a/b x",
            "shut /a\ngone /a/b", "shut /a\nshut /a/b", "shut /\ngone /a", "shut /\nfolder /a\nshut /a/b",
            "folder /a\nfolder /a/b/c", "gone /a\nshut /", "link /a b\nfile /a/b x", "folder /ab\nfile /a/b x",
        ):
            self.refused(text)

    def test_a_row_left_out_doubled_or_moved(self):
        rows = TEXT.split("\n")
        for number in range(len(rows)):
            self.refused("\n".join(rows[:number + 1] + rows[number:]))
            left = PANE[:number] + PANE[number + 1:]
            text = "\n".join(rows[:number] + rows[number + 1:])
            if is_pane(left):
                self.assertEqual(read_pane(text), left)
            else:
                self.refused(text)
        self.refused("\n".join(rows[1:]))
        self.refused("\n".join(rows[:3] + rows[4:]))
        for number in range(len(rows) - 1):
            self.refused("\n".join(rows[:number] + [rows[number + 1], rows[number]] + rows[number + 2:]))

    def test_a_sign_more_less_or_other(self):
        """Whatever is read is written back to the very text that was read."""
        text = "shut /a\nfile /a/b x\nlink /a/c /\ngone /b"
        signs = " /abx.\nAz~0"
        spoilt = [text[:place] + text[place + 1:] for place in range(len(text))]
        for place, sign in itertools.product(range(len(text) + 1), signs):
            spoilt.append(text[:place] + sign + text[place:])
            spoilt.append(text[:place] + sign + text[place + 1:])
        refused = 0
        for changed in spoilt:
            try:
                pane = read_pane(changed)
            except NoRow:
                refused += 1
            else:
                self.assertIs(is_pane(pane), True)
                self.assertEqual(shown_pane(pane), changed)
        self.assertGreater(refused, len(spoilt) // 2)
        self.assertLess(refused, len(spoilt))

    def test_the_refusal_is_taken_as_any_and_as_a_value_error(self):
        self.assertRaises(ValueError, read_pane, "x")
        self.assertRaises(ValueError, read_pane, "folder a")

    def test_forty_names(self):
        text = "/" + "/".join(FORTY)
        self.assertEqual(shown_pane(chain(40, "file"))[-len(text) - 6:], "file " + text + " ")

    def test_lists(self):
        told = read_pane("gone /a")
        told.append("x")
        self.assertEqual(read_pane("gone /a"), [gone("/a")])
        empty = read_pane("")
        empty.append("x")
        self.assertEqual(read_pane(""), [])

    def test_argument(self):
        self.assertEqual(read_pane(text="gone /a"), [gone("/a")])


if __name__ == "__main__":
    unittest.main()
