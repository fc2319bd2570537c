"""Point [21] of DOC.md: the page of a line, and pages read."""

import inspect
import random
import unittest

from mastword.errors import BadPage, NothingLeft
from mastword.line import Line
from mastword.page import page, read_page
from tests.keepers import SecondLine, any_deed, do, looks

GOOD = [
    "masts 4", "enter 3 40 tide", "send up 7 8", "beat", "slip 1 7 9", "doze 3", "say up tide", "settle", "wake 3",
    "fog 0", "lift 0", "settle", "lose up 1 0", "burn 2", "ask up 2 0", "turn", "express down 5", "recall down",
    "strike 3 40",
]
# Texts that are no deeds.
UNWRITTEN = [
    "", " ", "beat ", " beat", "Beat", "undo", "redo", "masts 4", "act", "act  0", "act 00", "act 1234567", "act -1",
    "send up", "send left 3", "say up Tide", "say up", "turn up", "arms", "page", "~",
]
# Deeds that a line refuses behind all rows of GOOD.
REFUSED = [
    "send up 0", "send up 95", "express up" + " 3" * 61, "say up" + " abcdefghijkl" * 5, "recall down", "act 4", "act 0",
    "slip 0 3 3", "doze 9", "wake 0", "fog 3", "lift 0", "lose up 0 0", "lose up 1 0", "burn 0", "burn 4", "ask up 0 9",
    "ask up 2 0", "enter 0 1 a", "strike 3 40",
]


class TestPage(unittest.TestCase):
    def test_arguments_are_named_as_written(self):
        self.assertEqual(list(inspect.signature(page).parameters), ["line"])
        self.assertEqual(list(inspect.signature(read_page).parameters), ["text"])

    def test_a_new_line(self):
        for masts in range(2, 13):
            self.assertEqual(page(Line(masts)), f"masts {masts}")
            self.assertEqual(looks(read_page(f"masts {masts}")), looks(Line(masts)))

    def test_a_row_for_each_standing_deed(self):
        line = Line(3)
        line.enter(1, 2, "tide")
        line.say("up", ["tide", "out"])
        line.send("down", [3, 94])
        line.beat()
        line.doze(2)
        line.undo()
        self.assertEqual(page(line), "masts 3\nenter 1 2 tide\nsay up tide out\nsend down 3 94\nbeat")
        line.redo()
        self.assertEqual(page(line), "masts 3\nenter 1 2 tide\nsay up tide out\nsend down 3 94\nbeat\ndoze 2")

    def test_what_is_no_deed_has_no_row(self):
        line = Line(3)
        line.beat()
        line.settle()
        do(line, "act", 9)
        line.ready()
        self.assertEqual(page(line), "masts 3")

    def test_the_page_changes_nothing(self):
        line = read_page("\n".join(GOOD))
        before = looks(line)
        page(line)
        self.assertEqual(looks(line), before)

    def test_there_and_back(self):
        text = "\n".join(GOOD)
        line = read_page(text)
        self.assertIs(type(line), Line)
        self.assertEqual(page(line), text)
        self.assertEqual(line.deeds(), GOOD[1:])
        self.assertEqual((line.sent("up"), line.heard("up"), line.way()), ([7, 8, 3, 40], [9, 8, 3, 40], "down"))

    def test_there_and_back_behind_many_mixed_deeds(self):
        for masts in (2, 3, 5, 12):
            for seed in range(5):
                chance, line, second = random.Random(seed), Line(masts), SecondLine(masts)
                for step in range(120):
                    deed = any_deed(chance, second)
                    self.assertEqual(do(line, *deed), do(second, *deed))
                text = page(line)
                self.assertEqual(text, "\n".join([f"masts {masts}", *second.deeds()]))
                self.assert_read(text, line)
                do(line, "undo")
                self.assert_read(page(line), line)

    def assert_read(self, text, line):
        """The page read tells what the line tells, with the same to take back and nothing to do again."""
        read = read_page(text)
        self.assertEqual(page(read), text)
        self.assertEqual(looks(read), looks(line))
        with self.assertRaises(NothingLeft):
            read.redo()
        other = line.twin()
        for step in range(len(line.deeds())):
            read.undo()
            other.undo()
        self.assertEqual(looks(read), looks(other))
        with self.assertRaises(NothingLeft):
            read.undo()

    def test_two_lines_read_from_one_page_go_their_own_ways(self):
        text = "masts 3\nsend up 7"
        one, other = read_page(text), read_page(text)
        one.act(0)
        self.assertEqual((one.arms(), other.arms()), ([7, 0, 0], [0, 0, 0]))


class TestBadPage(unittest.TestCase):
    def assert_bad(self, at, text):
        with self.subTest(text=text), self.assertRaises(BadPage) as caught:
            read_page(text)
        self.assertEqual(caught.exception.at, at, text)

    def test_the_first_row(self):
        for row in (
            "", " ", "masts", "masts ", "masts  3", " masts 3", "masts 3 ", "masts 3 3", "Masts 3", "mast 3", "masts three",
            "masts 03", "masts 003", "masts 012", "masts 0", "masts 1", "masts 13", "masts 100", "masts 999999",
            "masts 1000000", "masts -3", "masts +3", "masts 3.0", "masts" + " 9" * 50, "masts " + "9" * 5000, "3", "beat",
            "send up 3", "masts\t3", "masts up",
        ):
            self.assert_bad(0, row)
            self.assert_bad(0, row + "\nsend up 3")
            self.assert_bad(0, row + "\nno deed")
            self.assert_bad(0, row + "\nmasts 3")
        self.assert_bad(0, "\nmasts 3")
        self.assert_bad(0, "masts\n3")

    def test_rows_that_are_no_deeds(self):
        for many in range(1, len(GOOD) + 1):
            for row in UNWRITTEN:
                self.assert_bad(many, "\n".join([*GOOD[:many], row]))
                self.assert_bad(many, "\n".join([*GOOD[:many], row, *GOOD[many:]]))

    def test_a_line_feed_at_the_end(self):
        self.assert_bad(1, "masts 3\n")
        self.assert_bad(2, "masts 3\nsend up 3\n")
        self.assert_bad(1, "masts 3\n\nsend up 3")

    def test_deeds_that_are_refused(self):
        for row in REFUSED:
            self.assert_bad(len(GOOD), "\n".join([*GOOD, row]))
            self.assert_bad(len(GOOD), "\n".join([*GOOD, row, "beat", "no deed"]))
        self.assert_bad(3, "masts 3\nsend up 3\nact 0\nturn")
        self.assert_bad(3, "masts 3\nsend up 3\nact 0\nslip 0 3 3")
        self.assert_bad(2, "masts 3\nsend up 3\nslip 0 4 4")
        self.assert_bad(4, "masts 3\nsend up 3\nact 0\nact 1\nslip 0 3 3")
        self.assert_bad(2, "masts 3\ndoze 1\ndoze 1")
        self.assert_bad(2, "masts 3\nfog 1\nfog 1")
        self.assert_bad(2, "masts 3\nenter 1 1 a\nenter 1 1 b")
        self.assert_bad(2, "masts 3\nenter 1 1 a\nenter 1 2 a")
        self.assert_bad(1, "masts 3\nask up 1 0")

    def test_beats_and_settlings_for_which_nobody_is_ready(self):
        for row in ("beat", "settle"):
            self.assert_bad(1, "masts 3\n" + row)
            self.assert_bad(2, "masts 3\nsend down 3\n" + row)
            self.assert_bad(3, "masts 3\nsend up 3\ndoze 0\n" + row)
            self.assert_bad(3, "masts 3\nsend up 3\nsettle\n" + row)
            self.assert_bad(len(GOOD), "\n".join([*GOOD, row]))
            self.assertEqual(page(read_page("masts 3\nsend up 3\n" + row)), "masts 3\nsend up 3\n" + row)

    def test_the_first_of_several_wrong_rows(self):
        self.assert_bad(1, "masts 3\nact 0\nno deed")
        self.assert_bad(1, "masts 3\nno deed\nact 0")
        self.assert_bad(1, "masts 3\nbeat\nact 0")
        self.assert_bad(2, "masts 3\nsend up 3\nact 1\nbeat\nno deed")
        self.assert_bad(0, "masts 1\nno deed")


if __name__ == "__main__":
    unittest.main()
