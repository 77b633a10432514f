import unittest

from glasslayers.sorting import keys_of, sorted_out
from samples import file, folder


class SortingTest(unittest.TestCase):
    def test_sorted_out(self):
        tree = [folder("/a"), file("/a/b", "x"), folder("/a/c"), file("/a/c/d"), file("/ab")]
        self.assertEqual(sorted_out(tree, 0), {"a": tree[:4], "ab": tree[4:]})
        self.assertEqual(sorted_out(tree[1:4], 1), {"b": tree[1:2], "c": tree[2:4]})
        self.assertEqual(sorted_out([], 0), {})

    def test_keys_of(self):
        self.assertEqual(keys_of({"b": [], "0": []}, {"ab": [], "a": [], "b": []}), ["0", "a", "ab", "b"])
        self.assertEqual(keys_of({("b",): 1, (): 2}, {("a", "b"): 3, ("b",): 4}), [(), ("a", "b"), ("b",)])
        self.assertEqual(keys_of({}, {}), [])


if __name__ == "__main__":
    unittest.main()
