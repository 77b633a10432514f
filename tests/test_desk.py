import unittest

from glasslayers.desk import Desk
from glasslayers.errors import (
    Astray, Crowded, GlassError, InItself, IsFolder, IsThere, Missing, NoPane, NoPlace, NoRow, NotEmpty, NotFolder,
    NoWay, TooDeep,
)
from glasslayers.notes import shown_pane
from samples import chain, file, wide_tree

LOW = "folder /a\nfile /a/f low\nfile /c \nlink /l a/f"
MID = "folder /a\ngone /a/f\nshut /d\nfile /d/e mid  text "


def told(*rows):
    """A desk that was told those rows."""
    desk = Desk()
    for row in rows:
        desk.say(row)
    return desk


def panes(desk):
    """The texts of all its panes."""
    texts = []
    while True:
        try:
            texts.append(desk.say(f"pane {len(texts)}"))
        except NoPane:
            return texts


class Base(unittest.TestCase):
    def refused(self, desk, row, refusal):
        kept = panes(desk)
        with self.assertRaises(GlassError, msg=row[:80]) as caught:
            desk.say(row)
        self.assertIs(type(caught.exception), refusal, row[:80])
        self.assertEqual(panes(desk), kept)

    def answers(self, desk, rows):
        for row, answer in rows:
            said = desk.say(row)
            self.assertIs(type(said), str)
            self.assertEqual(said, answer, row)


class DeedRowsTest(Base):
    def test_each_deed(self):
        desk = Desk()
        self.answers(desk, [
            ("lay", "ok"), ("folder a", "ok"), ("write /a/f some text", "ok"), ("add a/f  more ", "ok"),
            ("read a/f", "some text more "), ("link l a/f", "ok"), ("read l", "some text more "), ("copy a b", "ok"),
            ("list /", "a b l"), ("move b/f g", "ok"), ("list .", "a b g l"), ("drop b", "ok"), ("sweep a", "ok"),
            ("list /", "g l"), ("find g", "/g"),
        ])
        self.assertEqual(panes(desk), ["gone /a\ngone /b\nfile /g some text more \nlink /l a/f"])

    def test_the_text_is_all_behind_the_second_blank(self):
        for text in ("", " ", "  ", "x", " x", "x ", "x y", "x  y", "a b c d e", "/ . ..", "write a b"):
            desk = told("lay")
            self.answers(desk, [("write a " + text, "ok"), ("read a", text), ("add a " + text, "ok"), ("read a", text * 2)])
        desk = told("lay")
        self.answers(desk, [("write a " + "x" * 9990, "ok"), ("read a", "x" * 9990)])

    def test_refusals(self):
        desk = told("load\n" + LOW, "lay")
        for row, refusal in (
            ("write a x", IsFolder), ("write x/y x", Missing), ("write / x", NoPlace), ("write a//b x", NoWay),
            ("add a x", IsFolder), ("add x ", Missing), ("folder a", IsThere), ("folder c/x", NotFolder),
            ("link x a//b", NoWay), ("link c a", IsThere), ("drop a", NotEmpty), ("drop x", Missing), ("sweep x", Missing),
            ("move a a/b", InItself), ("move c a", IsThere), ("copy c l", IsThere), ("copy x y", Missing),
        ):
            self.refused(desk, row, refusal)
        desk.say("link loop loop")
        self.refused(desk, "write loop x", Astray)
        desk = told("load\n" + shown_pane([file(f"/w{number:02}") for number in range(60)]))
        self.refused(desk, "folder z", Crowded)
        desk = told("load\n" + shown_pane(chain(12)))
        self.refused(desk, "folder " + "/".join(chain(12)[-1][0]) + "/x", TooDeep)

    def test_words_without_signs(self):
        desk = told("lay")
        for row in ("write  x", "write  ", "add  x", "folder ", "drop ", "sweep ", "link  a", "move  a", "copy  a", "link  "):
            self.refused(desk, row, NoWay)
        self.refused(desk, "link a ", NoWay)
        desk.say("folder a")
        self.refused(desk, "move a ", NoWay)
        self.refused(desk, "copy a ", NoWay)

    def test_no_panes(self):
        desk = Desk()
        for row in ("write a x", "write a ", "add a x", "folder a", "link a b", "drop a", "sweep a", "move a b", "copy a b",
                    "write  x", "folder ", "link a //", "drop /", "add / x"):
            self.refused(desk, row, NoPane)


class OtherRowsTest(Base):
    def test_lay_and_lift(self):
        desk = Desk()
        self.refused(desk, "lift", NoPane)
        self.answers(desk, [("lay", "ok"), ("lay", "ok")])
        self.assertEqual(panes(desk), ["", ""])
        self.answers(desk, [("folder a", "ok"), ("lift", "ok")])
        self.assertEqual(panes(desk), [""])
        self.answers(desk, [("lift", "ok")])
        self.refused(desk, "lift", NoPane)

    def test_load(self):
        desk = Desk()
        self.answers(desk, [("load\n" + LOW, "ok"), ("load\n" + MID, "ok"), ("load\n", "ok")])
        self.assertEqual(panes(desk), [LOW, MID, ""])
        self.answers(desk, [("read d/e", "mid  text "), ("list a", ""), ("list /", "a c d l")])
        for row in ("load", "load ", "load \n" + LOW, "load\n\n", "load\n" + LOW + "\n", "load\nx", "load\nfolder a",
                    "load\nfile /a/b x", "load\nshut /\ngone /a", "load gone /a", "load\n ", " load\n", "Load\ngone /a",
                    "load\ngone /a ", "loads\ngone /a"):
            self.refused(desk, row, NoRow)
        self.answers(desk, [("load\nshut /", "ok"), ("list /", "")])
        self.answers(Desk(), [("load\n" + shown_pane(wide_tree()), "ok")])

    def test_weld(self):
        desk = told("load\n" + LOW, "load\n" + MID, "lay")
        self.answers(desk, [("weld 2", "ok"), ("weld 1", "ok")])
        self.assertEqual(panes(desk), ["folder /a\ngone /a/f\nfile /c \nshut /d\nfile /d/e mid  text \nlink /l a/f"])
        for number in ("0", "1", "2", "999999999"):
            self.refused(desk, "weld " + number, NoPane)

    def test_sink(self):
        desk = told("load\n" + LOW, "load\ngone /z", "load\n" + MID, "load\nfile /y x")
        self.answers(desk, [("sink 3", "0"), ("sink 0", "0"), ("sink 3", "2 /a/f"), ("sink 1", "0")])
        self.assertEqual(panes(desk), [LOW, "file /y x", MID, "gone /z"])
        self.answers(desk, [("sink 3", "0")])
        for number in ("4", "10", "999999999"):
            self.refused(desk, "sink " + number, NoPane)
        desk = told("load\nfolder /a\nfolder /a/b\nfile /a/b/c x", "load\nshut /a")
        self.answers(desk, [("sink 1", "1 /a/b")])
        desk = told("load\nfile /a x", "load\nshut /")
        self.answers(desk, [("sink 1", "1 /a")])

    def test_trim(self):
        desk = told("load\n" + LOW, "load\nfolder /a\nfile /c \ngone /z\nshut /zz", "lay")
        self.answers(desk, [("trim 2", "0"), ("trim 1", "1"), ("trim 0", "4")])
        self.assertEqual(panes(desk), [LOW, "folder /zz", ""])
        for number in ("3", "10", "999999999"):
            self.refused(desk, "trim " + number, NoPane)
        self.answers(told("load\n" + shown_pane(wide_tree())), [("trim 0", "400")])

    def test_pane(self):
        desk = told("load\n" + LOW, "lay")
        self.answers(desk, [("pane 0", LOW), ("pane 1", "")])
        for number in ("2", "3", "100", "999999999"):
            self.refused(desk, "pane " + number, NoPane)

    def test_read_list_and_find(self):
        desk = told("load\n" + LOW, "load\nfolder /a\nfile /a/g  top \nlink /loop loop\nlink /r /")
        self.answers(desk, [
            ("read a/f", "low"), ("read /l", "low"), ("read c", ""), ("read a/g", " top "), ("read r/a/../a/f", "low"),
            ("list /", "a c l loop r"), ("list a", "f g"), ("list r/a", "f g"), ("list .", "a c l loop r"),
            ("find /", "/"), ("find .", "/"), ("find l", "/a/f"), ("find a/../c", "/c"), ("find r/a", "/a"),
        ])
        for row, refusal in (
            ("read a", IsFolder), ("read /", IsFolder), ("read r", IsFolder), ("read x", Missing), ("read c/x", NotFolder),
            ("read loop", Astray), ("read ", NoWay), ("read a/", NoWay), ("list c", NotFolder), ("list l", NotFolder),
            ("list x", Missing), ("list c/.", NotFolder), ("list loop", Astray), ("list ", NoWay), ("find x", Missing),
            ("find c/.", NotFolder), ("find loop", Astray), ("find ", NoWay), ("find //", NoWay),
        ):
            self.refused(desk, row, refusal)

    def test_no_panes(self):
        desk = Desk()
        for row in ("weld 0", "weld 1", "sink 0", "trim 0", "pane 0", "pane 1", "lift"):
            self.refused(desk, row, NoPane)
        self.answers(desk, [("list /", ""), ("find /", "/"), ("find ..", "/")])
        self.refused(desk, "read /", IsFolder)
        self.refused(desk, "read a", Missing)
        self.refused(desk, "list a", Missing)
        self.refused(desk, "find a//b", NoWay)


class NoRowTest(Base):
    ROWS = [
        "", " ", "  ", "x", "ok", "lay ", " lay", "lay 1", "lay  ", "Lay", "LAY", "lays", "lift ", " lift", "lift 0", "lifts",
        "write", "write ", "write a", "write a/b", " write a b", "Write a b", "writes a b", "add", "add a", "add ", "Add a b",
        "folder", "folder a b", "folder a ", "folder  a", " folder a", "Folder a", "link", "link a", "link a b c", "link a b ",
        "link  a b", "drop", "drop a b", "drop a ", "drop  a", "sweep", "sweep a b", "sweep a ", "move", "move a",
        "move a b c", "move a b ", "move a  b", "copy", "copy a", "copy a b c", "copy  a b", "read", "read a b", "read a ",
        "read  a", "list", "list a b", "list a ", "find", "find a b", "find  a", "weld", "weld 1 2", "sink", "sink 1 ",
        "trim", "trim  1", "pane", "pane 0 0", "load", "done a", "seen", "say", "panes", "gone /a", "file /a x",
    ]
    NUMBERS = [
        "", "00", "01", "007", "-1", "+1", "-0", "+0", "a", "1a", "a1", "1.0", "0x1", "1_0", "1000000000", "1234567890",
        "0000000000", "000000000", "/", ".", "/1", "1/", "~",
    ]

    def test_rows_that_are_none(self):
        for desk in (Desk(), told("lay"), told("load\n" + LOW, "lay")):
            for row in self.ROWS:
                self.refused(desk, row, NoRow)

    def test_numbers_that_are_none(self):
        for desk in (Desk(), told("load\n" + LOW, "lay")):
            for kind in ("weld", "sink", "trim", "pane"):
                for number in self.NUMBERS:
                    self.refused(desk, f"{kind} {number}", NoRow)

    def test_numbers_of_one_to_nine_figures(self):
        desk = told(*(["lay"] * 12))
        for kind in ("sink", "trim"):
            for number in ("0", "1", "9", "10", "11"):
                self.assertEqual(desk.say(f"{kind} {number}"), "0")
        for kind in ("weld", "sink", "trim", "pane"):
            for number in ("12", "100", "123456789", "999999999", "100000000"):
                self.refused(desk, f"{kind} {number}", NoPane)


class DeskTest(Base):
    def test_two_desks_stay_apart(self):
        one, other = Desk(), Desk()
        one.say("lay")
        one.say("folder a")
        self.assertEqual(other.say("list /"), "")
        self.refused(other, "folder a", NoPane)

    def test_a_row_of_rows(self):
        desk = told("load\n" + LOW, "lay")
        self.answers(desk, [
            ("write l new", "ok"), ("pane 1", "folder /a\nfile /a/f new"), ("sweep a", "ok"), ("folder a", "ok"),
            ("pane 1", "shut /a"), ("lay", "ok"), ("write a/z last", "ok"), ("sink 2", "2 /a/z"), ("weld 2", "ok"),
            ("trim 1", "2"), ("pane 1", "shut /a\nfile /a/z last"), ("list a", "z"), ("weld 1", "ok"), ("trim 0", "4"),
            ("pane 0", "folder /a\nfile /a/z last\nfile /c \nlink /l a/f"), ("lift", "ok"), ("list /", ""),
        ])

    def test_argument(self):
        self.assertEqual(Desk().say(row="lay"), "ok")


if __name__ == "__main__":
    unittest.main()
