import string
import unittest

from glasslayers.names import is_name

SIGNS = string.ascii_lowercase + string.digits
# Beyond ASCII: letters and figures that Python itself takes for small letters or figures.
FAR_SIGNS = "\u00e9\u00df\u00b2\u0663\u0430\uff41\uff11"
OTHER_SIGNS = [chr(code) for code in range(128) if chr(code) not in SIGNS] + list(FAR_SIGNS)


class NamesTest(unittest.TestCase):
    def assert_name(self, thing):
        self.assertIs(is_name(thing), True, repr(thing))

    def assert_no_name(self, thing):
        self.assertIs(is_name(thing), False, repr(thing))

    def test_ordinary_names(self):
        for text in ("a", "0", "folder", "a1", "1a", "007", "readme2", "none", "true"):
            self.assert_name(text)

    def test_length(self):
        self.assert_no_name("")
        for length in range(1, 13):
            self.assert_name("a" * length)
            self.assert_name("0" * length)
        for length in (13, 14, 24, 25, 100, 10000):
            self.assert_no_name("a" * length)
            self.assert_no_name("0" * length)

    def test_a_name_of_twelve_unlike_signs(self):
        self.assert_name("abcxyz012789")
        self.assert_no_name("abcxyz0127890")

    def test_each_letter_and_figure(self):
        for sign in SIGNS:
            self.assert_name(sign)
            self.assert_name(sign + "a0")
            self.assert_name("a" + sign + "0")
            self.assert_name("a0" + sign)

    def test_each_other_sign(self):
        for sign in OTHER_SIGNS:
            self.assert_no_name(sign)
            self.assert_no_name(sign + "a0")
            self.assert_no_name("a" + sign + "0")
            self.assert_no_name("a0" + sign)
            self.assert_no_name("a" * 11 + sign)

    def test_signs_next_to_the_ranges_and_capitals_are_among_those(self):
        for sign in "`{/:@[AZ.-_ %~\n":
            self.assertIn(sign, OTHER_SIGNS)

    def test_words_that_are_no_names(self):
        for text in (".", "..", "...", "/", "a/b", "/a", "a b", " a", "a ", "a\n"):
            self.assert_no_name(text)

    def test_other_kinds(self):
        for thing in (None, True, False, 0, 1, 7, 12, -1, 10 ** 299):
            self.assert_no_name(thing)
        for thing in ([], (), ["a"], ("a",), ["a", "b"], ("a", "b"), [1], (None,), [["a"]], (("a",),)):
            self.assert_no_name(thing)

    def test_a_list_that_is_asked_stays_as_it_was(self):
        inner = ["b"]
        thing = ["a", inner]
        self.assert_no_name(thing)
        self.assertEqual(thing, ["a", ["b"]])
        self.assertIs(thing[1], inner)

    def test_argument(self):
        self.assertIs(is_name(thing="a"), True)


if __name__ == "__main__":
    unittest.main()
