import unittest

from glasslayers.changes import changed, refuse_crowd, refuse_depth
from glasslayers.errors import Crowded, TooDeep
from samples import FORTY, chain, file, folder

TREE = [folder("/a"), file("/a/b", "x"), file("/c", "y")]


class ChangesTest(unittest.TestCase):
    def test_changed(self):
        self.assertEqual(changed(TREE, []), TREE)
        self.assertEqual(changed(TREE, [(("a",), None, [])]), TREE[2:])
        self.assertEqual(changed(TREE, [(("c",), ("file", "z"), [])]), TREE[:2] + [file("/c", "z")])
        moved = [(("a",), None, []), (("d",), ("folder", ""), [file("/b", "x")])]
        self.assertEqual(changed(TREE, moved), [file("/c", "y"), folder("/d"), file("/d/b", "x")])
        self.assertEqual(TREE, [folder("/a"), file("/a/b", "x"), file("/c", "y")])

    def test_depth(self):
        refuse_depth(FORTY[:12], [])
        refuse_depth(FORTY[:10], chain(2))
        self.assertRaises(TooDeep, refuse_depth, FORTY[:13], [])
        self.assertRaises(TooDeep, refuse_depth, FORTY[:10], chain(3))

    def test_crowd(self):
        refuse_crowd(chain(40), chain(19))
        refuse_crowd([], chain(40))
        self.assertRaises(Crowded, refuse_crowd, chain(40), chain(20))


if __name__ == "__main__":
    unittest.main()
