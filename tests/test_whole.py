"""The promise over the whole program: deeds through panes beside the same deeds on the plain tree that was seen."""

import random
import unittest

import model
import plainmodel
from glasslayers.deeds import done
from glasslayers.desk import Desk
from glasslayers.errors import GlassError
from glasslayers.glass import Glass
from glasslayers.panes import is_pane
from glasslayers.trees import is_tree
from samples import NAMES, linked_tree, random_deed, random_panes


class WholeTest(unittest.TestCase):
    def step(self, glass, tree, deed):
        """Does a deed both ways, and tells the tree behind it."""
        ahead = glass.panes()
        plain = plainmodel.outcome(done, tree, deed)
        self.assertEqual(plain, plainmodel.outcome(plainmodel.done, tree, deed), (tree, deed))
        through = plainmodel.outcome(glass.do, deed)
        behind = glass.panes()
        if isinstance(plain, type):
            self.assertIs(through, plain, (tree, deed))
            self.assertEqual(behind, ahead)
            return tree
        self.assertIsNone(through, (tree, deed))
        self.assertEqual(behind[:-1], ahead[:-1])
        self.assertIs(is_pane(behind[-1]), True)
        self.assertEqual(glass.seen(), plain, (ahead, deed))
        return plain

    def test_long_rows_of_deeds(self):
        for seed in range(30):
            rng = random.Random(seed)
            lower = [linked_tree(rng, turns=14)] + random_panes(seed, seed % 5, turns=6)
            glass = Glass(lower + [[]])
            tree = model.seen(lower)
            for turn in range(100):
                tree = self.step(glass, tree, random_deed(rng, NAMES))
            self.assertEqual(glass.panes()[:-1], lower)

    def test_other_deeds_between_them(self):
        for seed in range(100, 130):
            rng = random.Random(seed)
            glass = Glass([linked_tree(rng, turns=14)] + random_panes(seed, 3, turns=6) + [[]])
            tree = glass.seen()
            for turn in range(100):
                count = len(glass.panes())
                k = rng.randrange(count)
                kind = rng.choice(["weld", "sink", "trim", "lay"] + ["deed"] * 8)
                if kind == "weld" and k > 0 and count > 2:
                    glass.weld(k)
                elif kind == "sink":
                    glass.sink(k)
                elif kind == "trim":
                    self.assertEqual(glass.trim(k), len(glass.panes()[k]))
                elif kind == "lay" and count < 8:
                    glass.lay()
                else:
                    tree = self.step(glass, tree, random_deed(rng, NAMES))
                self.assertEqual(glass.seen(), tree)
                self.assertIs(is_tree(tree), True)
                self.assertTrue(all([is_pane(pane) for pane in glass.panes()]))

    def test_the_desk_beside_a_plain_tree(self):
        for seed in range(200, 220):
            rng = random.Random(seed)
            desk, tree = Desk(), []
            desk.say("lay")
            for turn in range(100):
                deed = random_deed(rng, NAMES)
                plain = plainmodel.outcome(done, tree, deed)
                said = plainmodel.outcome(desk.say, " ".join(deed))
                self.assertEqual(said, plain if isinstance(plain, type) else "ok", deed)
                tree = tree if isinstance(plain, type) else plain
                if rng.random() < 0.2:
                    desk.say("lay")
                if rng.random() < 0.1:
                    plainmodel.outcome(desk.say, f"weld {rng.randrange(3)}")
                for way, mark, text in tree:
                    if mark == "file":
                        self.assertEqual(desk.say("read /" + "/".join(way)), text)
                    if mark == "folder":
                        names = [entry[0][-1] for entry in tree if entry[0][:-1] == way]
                        self.assertEqual(desk.say("list /" + "/".join(way)), " ".join(names))
                self.assertEqual(desk.say("list /"), " ".join([entry[0][0] for entry in tree if len(entry[0]) == 1]))

    def test_deep_and_crowded_trees(self):
        names = tuple([f"n{number}" for number in range(8)])
        refusals = {}
        for seed in range(300, 306):
            rng = random.Random(seed)
            glass, tree = Glass([[], []]), []
            for turn in range(300):
                folders = [()] + [entry[0] for entry in tree if entry[1] == "folder"]
                at = max(rng.sample(folders, min(3, len(folders))), key=len) + (rng.choice(names),)
                deed = ("folder", "/".join(at))
                if turn % 4 == 1 and tree:
                    where = rng.choice(tree)[0]
                    deed = (rng.choice(["copy", "move"]), "/".join(where), "/".join(at))
                if turn % 60 == 59:
                    deed = ("sweep", "/".join(rng.choice(tree)[0]))
                try:
                    done(tree, deed)
                except GlassError as refusal:
                    refusals[type(refusal).__name__] = True
                tree = self.step(glass, tree, deed)
                self.assertLessEqual(len(tree), 60)
                self.assertLessEqual(max([len(entry[0]) for entry in tree], default=0), 12)
        self.assertLessEqual({"TooDeep", "Crowded", "InItself", "IsThere"}, set(refusals))


if __name__ == "__main__":
    unittest.main()
