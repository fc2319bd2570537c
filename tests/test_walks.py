"""All points of DOC.md that speak of a line, behind many mixed deeds: held against the second reading of them."""

import random
import unittest

from mastword.line import Line
from tests.keepers import SecondLine, any_deed, do, looks


class TestWalks(unittest.TestCase):
    def assert_alike(self, line, second, walked):
        told, wanted = looks(line), looks(second)
        self.assertEqual(list(told), list(wanted))
        for look in wanted:
            self.assertEqual(told[look], wanted[look], (look, walked))

    def walk(self, masts, seed, steps, every):
        """Go on by chance; now and then by a twin, which leaves the line behind as it stands then."""
        chance = random.Random(seed)
        line, second = Line(masts), SecondLine(masts)
        walked, left = [], []
        for step in range(steps):
            deed = any_deed(chance, second)
            # What was taken back is done again so often that this is seen, too, behind every kind of deed.
            if walked and walked[-1][0] == "undo" and chance.random() < 0.5:
                deed = ("redo",)
            walked.append(deed)
            self.assertEqual(do(line, *deed), do(second, *deed), walked)
            if step % every == 0:
                self.assert_alike(line, second, walked)
            if step % 40 == 39:
                left.append((line, second))
                line, second = line.twin(), second.twin()
        self.assert_alike(line, second, walked)
        for line, second in left:
            self.assert_alike(line, second, walked)
            while do(second, "redo")[0] == "told":
                line.redo()
            self.assert_alike(line, second, walked)

    def test_small_lines(self):
        for masts in (2, 3, 4):
            for seed in range(12):
                with self.subTest(masts=masts, seed=seed):
                    self.walk(masts, seed, 120, 1)

    def test_long_lines(self):
        for masts in (5, 8, 12):
            for seed in range(4):
                with self.subTest(masts=masts, seed=seed):
                    self.walk(masts, seed, 160, 8)


if __name__ == "__main__":
    unittest.main()
