import itertools
import unittest

from glasslayers.errors import GlassError, NoWay
from glasslayers.words import read_way, shown_way, straight, words_of
from samples import FORTY

LONG = "abcdefgh0123"
NO_WAY_TEXTS = [
    "", "//", "///", "a/", "/a/", "a//b", "/a//b", "//a", "a//", "./", "../", "/./", "...", "/...", "a/...", "....",
    ".a", "a.", "..a", "a..", "/.a", " ", "a ", " a", "a b", "/ ", "/a ", "/a/ ", "A", "/A", "aB", "a/B", "a-b", "a_b",
    "~", "a\n", "/\n", "\n", LONG + "4", "/" + LONG + "4", "a/" + LONG + "4", "a\\b", "*", "a:b",
    "/".join(["a"] * 41), "/" + "/".join(["a"] * 41), "/".join(["."] * 41), "/" + "/".join([".."] * 41),
    "/".join(["a"] * 40) + "/", "a" * 10000, "/" * 10000, "a/" * 5000, "/a" * 5000,
]


class ShownWayTest(unittest.TestCase):
    def test_ways(self):
        self.assertEqual(shown_way(()), "/")
        self.assertEqual(shown_way(("a",)), "/a")
        self.assertEqual(shown_way((LONG,)), "/" + LONG)
        self.assertEqual(shown_way(("a", "b")), "/a/b")
        self.assertEqual(shown_way(("0", "ab", "0")), "/0/ab/0")

    def test_forty_names(self):
        self.assertEqual(shown_way(FORTY), "".join(["/" + name for name in FORTY]))

    def test_argument(self):
        self.assertEqual(shown_way(way=("a",)), "/a")


class WordsOfTest(unittest.TestCase):
    def check(self, text, rooted, words):
        told = words_of(text)
        self.assertIs(type(told), tuple)
        self.assertEqual(len(told), 2)
        self.assertIs(told[0], rooted)
        self.assertIs(type(told[1]), list)
        self.assertEqual(told[1], words)

    def test_the_root(self):
        self.check("/", True, [])

    def test_one_word(self):
        for word in ("a", "0", "zz9", LONG, ".", ".."):
            self.check(word, False, [word])
            self.check("/" + word, True, [word])

    def test_each_count_of_words(self):
        words = list(itertools.islice(itertools.cycle(["a", ".", "b0", ".."]), 40))
        for count in range(1, 41):
            self.check("/".join(words[:count]), False, words[:count])
            self.check("/" + "/".join(words[:count]), True, words[:count])

    def test_texts_that_are_none(self):
        for text in NO_WAY_TEXTS:
            with self.subTest(text=text[:50]):
                self.assertRaises(NoWay, words_of, text)

    def test_the_refusal_is_taken_as_any_and_as_a_value_error(self):
        for text in ("", "a//b", "..."):
            self.assertRaises(GlassError, words_of, text)
            self.assertRaises(ValueError, words_of, text)

    def test_small_texts_against_the_words_themselves(self):
        words = ("a", ".", "..", "b1")
        known = {"/": (True, [])}
        for count in (1, 2, 3):
            for chosen in itertools.product(words, repeat=count):
                known["/".join(chosen)] = (False, list(chosen))
                known["/" + "/".join(chosen)] = (True, list(chosen))
        for length in range(6):
            for signs in itertools.product("a./A", repeat=length):
                text = "".join(signs)
                names = text.replace("/", "").replace(".", "")
                if set(names) <= {"a"} and "aa" not in text:
                    if text in known:
                        self.assertEqual(words_of(text), known[text])
                    elif text.count("/") < 3:
                        self.assertRaises(NoWay, words_of, text)

    def test_a_told_list_is_the_askers_own(self):
        for text in ("/", "a", "/a/../b"):
            told = words_of(text)
            kept = list(told[1])
            told[1].append("x")
            told[1].insert(0, "y")
            self.assertEqual(words_of(text)[1], kept)
            self.assertIsNot(words_of(text)[1], words_of(text)[1])

    def test_argument(self):
        self.assertEqual(words_of(text="a"), (False, ["a"]))


class ReadWayTest(unittest.TestCase):
    def test_written_ways_are_read_back(self):
        ways = [FORTY[:count] for count in range(41)] + [("a",), (LONG, LONG), ("0",), ("a", "a", "a")]
        for way in ways:
            told = read_way(shown_way(way))
            self.assertIs(type(told), tuple)
            self.assertEqual(told, way)

    def test_ordinary_texts(self):
        self.assertEqual(read_way("/"), ())
        self.assertEqual(read_way("/a"), ("a",))
        self.assertEqual(read_way("/a/b0/c"), ("a", "b0", "c"))

    def test_way_texts_that_write_no_way(self):
        for text in ("a", "a/b", ".", "..", "/.", "/..", "/./a", "/a/.", "/a/..", "/../a", "/a/../b", "./a"):
            with self.subTest(text=text):
                words_of(text)
                self.assertRaises(NoWay, read_way, text)

    def test_texts_that_are_no_way_texts(self):
        for text in NO_WAY_TEXTS:
            with self.subTest(text=text[:50]):
                self.assertRaises(NoWay, read_way, text)

    def test_argument(self):
        self.assertEqual(read_way(text="/a"), ("a",))


class StraightTest(unittest.TestCase):
    def test_no_words(self):
        for way in ((), ("a",), ("a", "b"), FORTY):
            self.assertEqual(straight(way, []), way)

    def test_a_dot_stays(self):
        self.assertEqual(straight((), ["."]), ())
        self.assertEqual(straight(("a", "b"), [".", "."]), ("a", "b"))

    def test_two_dots_go_above(self):
        self.assertEqual(straight(("a", "b"), [".."]), ("a",))
        self.assertEqual(straight(("a",), [".."]), ())
        self.assertEqual(straight((), [".."]), ())
        self.assertEqual(straight(("a",), ["..", "..", ".."]), ())

    def test_names_go_under(self):
        self.assertEqual(straight((), ["a"]), ("a",))
        self.assertEqual(straight(("a",), ["b", "c"]), ("a", "b", "c"))

    def test_words_are_taken_in_their_order(self):
        self.assertEqual(straight(("a",), ["b", ".."]), ("a",))
        self.assertEqual(straight(("a",), ["..", "b"]), ("b",))
        self.assertEqual(straight((), ["..", "b", ".", "c", "..", "d"]), ("b", "d"))
        self.assertEqual(straight((), ["..", "..", "a"]), ("a",))

    def test_forty_words(self):
        self.assertEqual(straight((), list(FORTY)), FORTY)
        self.assertEqual(straight(FORTY, [".."] * 40), ())
        self.assertEqual(straight(FORTY, [".."] * 39), FORTY[:1])
        self.assertEqual(straight(FORTY, ["."] * 40), FORTY)
        self.assertEqual(straight(FORTY, ["x"] * 40), FORTY + ("x",) * 40)

    def test_it_is_a_tuple(self):
        for words in ([], ["a"], [".."], ["."]):
            self.assertIs(type(straight(("a",), words)), tuple)

    def test_what_is_handed_in_stays_as_it_was(self):
        words, way = ["..", "b", ".", "c"], ("a",)
        self.assertEqual(straight(way, words), ("b", "c"))
        self.assertEqual((words, way), (["..", "b", ".", "c"], ("a",)))

    def test_arguments(self):
        self.assertEqual(straight(words=["b"], way=("a",)), ("a", "b"))


if __name__ == "__main__":
    unittest.main()
