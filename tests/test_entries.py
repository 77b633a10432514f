import unittest

from glasslayers.entries import are_entries, in_order

GOOD = [
    (("a",), "file", ""), (("a",), "file", "any text "), (("a", "b"), "link", "/"), (("a",), "link", "../b"),
    (("a",), "folder", ""), (("a",), "gone", ""), (("a",), "shut", ""), ((), "shut", ""),
]
BAD = [
    (("a",), "file ", ""), (("a",), "", ""), (("a",), "Folder", ""), (("a",), "link", ""), (("a",), "link", "a/"),
    (("a",), "folder", "x"), (("a",), "gone", " "), (("a",), "shut", "/"), (("A",), "file", ""), (("a", ""), "file", ""),
]


class EntriesTest(unittest.TestCase):
    def test_each_mark_and_its_texts(self):
        for entry in GOOD:
            self.assertIs(are_entries([entry]), True, entry)
        for entry in BAD:
            self.assertIs(are_entries([entry]), False, entry)

    def test_order(self):
        one, other = (("a",), "file", "z"), (("b",), "file", "a")
        self.assertIs(are_entries([one, other]), True)
        self.assertIs(are_entries([other, one]), False)
        self.assertIs(are_entries([one, (("a",), "folder", "")]), False)
        self.assertEqual(in_order([other, one]), [one, other])

    def test_one_that_is_none_among_others(self):
        for entry in BAD:
            self.assertIs(are_entries([((), "shut", ""), entry, (("b",), "file", "")]), False, entry)


if __name__ == "__main__":
    unittest.main()
