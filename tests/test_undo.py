"""Points [1] and [19] of DOC.md: what is taken back, done again, and gone on with by a twin."""

import random
import unittest

from mastword.errors import NothingLeft
from mastword.line import Line
from tests.keepers import DEEDS, LineCase, any_deed, do, looks, outcome

# Every kind of deed, on both ways, each of which can be done when its turn comes.
STORY = [
    ("enter", 3, 40, "tide"), ("send", "up", 3, 94), ("express", "up", 7, 8), ("say", "up", "tide", "out"),
    ("recall", "up"), ("act", 0), ("slip", 1, 9, 10), ("doze", 3), ("beat",), ("fog", 2), ("settle",), ("wake", 3),
    ("lift", 2), ("act", 3), ("lose", "up", 1, 0), ("settle",), ("burn", 2), ("ask", "up", 2, 0), ("ask", "up", 1, 0),
    ("strike", 3, 40), ("enter", 3, 40, "out"), ("turn",), ("send", "down", 5), ("say", "down", "out"),
    ("express", "down", 6), ("slip", 3, 6, 1), ("recall", "down"), ("beat",), ("act", 1), ("lose", "down", 2, 0),
    ("doze", 0), ("settle",), ("burn", 1), ("wake", 0), ("fog", 0), ("lift", 0), ("settle",), ("ask", "down", 1, 0),
    ("turn",), ("strike", 3, 40), ("send", "up", 2), ("settle",), ("burn", 1), ("burn", 1),
]


def told_through(line, story):
    """What the line told ahead of the first deed and behind each one."""
    told = [looks(line)]
    for deed in story:
        done = do(line, *deed)
        assert done[0] == "told", (deed, done)
        told.append(looks(line))
    return told


class TestUndoAndRedo(LineCase):
    def test_the_story_has_every_kind_of_deed(self):
        self.assertEqual({deed[0] for deed in STORY}, set(DEEDS))

    def test_each_deed_of_the_story(self):
        line = Line(4)
        for deed in STORY:
            told = do(line.twin(), *deed)[1]
            self.assert_done(told, line, *deed)

    def test_all_the_way_back_and_forth(self):
        line = Line(4)
        told = told_through(line, STORY)
        for times in range(2):
            for wanted in told[-2::-1]:
                self.assertIsNone(line.undo())
                self.assertEqual(looks(line), wanted)
            self.assertEqual(outcome(line.undo), ("refused", "NothingLeft", None))
            self.assertEqual(looks(line), told[0])
            for wanted in told[1:]:
                self.assertIsNone(line.redo())
                self.assertEqual(looks(line), wanted)
            self.assertEqual(outcome(line.redo), ("refused", "NothingLeft", None))
            self.assertEqual(looks(line), told[-1])

    def test_another_deed_lets_go_what_could_be_done_again(self):
        for many in (1, 2, 5, len(STORY)):
            line = Line(4)
            told = told_through(line, STORY)
            for step in range(many):
                line.undo()
            line.enter(40, 40, "new")
            self.assertEqual(outcome(line.redo), ("refused", "NothingLeft", None))
            self.assertEqual(line.deeds(), [*told[-1 - many]["deeds",][1], "enter 40 40 new"])
            line.undo()
            self.assertEqual(looks(line), told[-1 - many])
            line.redo()
            self.assertEqual(outcome(line.redo), ("refused", "NothingLeft", None))

    def test_the_same_deed_lets_go_as_well(self):
        line = Line(3)
        line.send("up", [1])
        line.send("up", [2])
        line.undo()
        line.undo()
        line.send("up", [1])
        with self.assertRaises(NothingLeft):
            line.redo()
        self.assertEqual(line.waiting("up"), [1])

    def test_each_kind_of_deed_lets_go(self):
        line = Line(4)
        for deed in STORY:
            self.let_be_done_again(line)
            do(line, *deed)
            with self.subTest(deed=deed), self.assertRaises(NothingLeft):
                line.redo()

    def test_what_is_no_deed_lets_go_nothing(self):
        line = Line(4)
        told_through(line, STORY)
        for step in range(3):
            line.undo()
        last = looks(line)
        line.redo()
        then = looks(line)
        line.undo()
        for refused in (
            ("send", "left", 1), ("express", "up", 0), ("say", "up", "Tide"), ("recall", "left"), ("act", 9),
            ("slip", 0, 1, 1), ("doze", -1), ("wake", 0), ("fog", 3), ("lift", 1), ("lose", "up", 0, 0), ("burn", 0),
            ("ask", "up", 0, 0), ("enter", 0, 0, "a"), ("strike", 1, 1),
        ):
            self.assertEqual(do(line, *refused)[0], "refused", refused)
        line.twin().undo()
        self.assertEqual(looks(line), last)
        line.redo()
        self.assertEqual(looks(line), then)

    def test_beats_and_settlings_for_which_nobody_is_ready(self):
        line = Line(3)
        line.doze(0)
        line.send("up", [7])
        line.undo()
        self.assertEqual((line.beat(), line.settle(), line.deeds()), ([], 0, ["doze 0"]))
        line.redo()
        self.assertEqual((line.beat(), line.settle(), line.deeds()), ([], 0, ["doze 0", "send up 7"]))
        line.undo()
        line.undo()
        self.assertEqual(line.deeds(), [])

    def test_redo_of_beats_and_settlings(self):
        line = Line(3)
        line.send("up", [7, 8])
        line.beat()
        line.settle()
        self.assertEqual((line.undo(), line.undo(), line.arms()), (None, None, [0, 0, 0]))
        self.assertEqual((line.redo(), line.arms()), (None, [7, 0, 0]))
        self.assertEqual((line.redo(), line.heard("up")), (None, [7, 8]))

    def test_many_deeds(self):
        line = Line(12)
        for times in range(100):
            line.send("up", [1 + times % 94] * 5)
            line.settle()
            line.burn(1 + times % 10)
        self.assertEqual(len(line.deeds()), 300)
        heard, deeds = line.heard("up"), line.deeds()
        for step in range(300):
            line.undo()
        self.assertEqual(looks(line), looks(Line(12)))
        for step in range(300):
            line.redo()
        self.assertEqual((line.heard("up"), line.deeds()), (heard, deeds))
        self.assertEqual(line.row("up", 1, 0), None)


class TestTwin(LineCase):
    def test_it_stands_as_the_line_does(self):
        line = Line(4)
        self.assertEqual(looks(line.twin()), looks(line))
        for deed in STORY:
            do(line, *deed)
            self.assertEqual(looks(line.twin()), looks(line), deed)

    def test_it_has_the_same_to_take_back_and_to_do_again(self):
        line = Line(4)
        told = told_through(line, STORY)
        for step in range(20):
            line.undo()
        twin = line.twin()
        for wanted in told[-20:]:
            twin.redo()
            self.assertEqual(looks(twin), wanted)
        with self.assertRaises(NothingLeft):
            twin.redo()
        for wanted in told[-2::-1]:
            twin.undo()
            self.assertEqual(looks(twin), wanted)
        with self.assertRaises(NothingLeft):
            twin.undo()
        self.assertEqual(looks(line), told[-21])
        for wanted in told[-20:]:
            line.redo()
            self.assertEqual(looks(line), wanted)

    def test_each_goes_its_own_way(self):
        for seed in range(6):
            chance, line = random.Random(seed), Line(4)
            told_through(line, STORY[:24])
            line.undo()
            twin = line.twin()
            before = looks(line)
            for step in range(80):
                do(twin, *any_deed(chance, twin))
            self.assertEqual(looks(line), before)
            after = looks(twin)
            for step in range(80):
                do(line, *any_deed(chance, line))
            self.assertEqual(looks(twin), after)

    def test_taking_back_in_the_one_leaves_the_other(self):
        line = Line(4)
        told = told_through(line, STORY)
        twin = line.twin()
        for step in STORY:
            twin.undo()
        self.assertEqual((looks(twin), looks(line)), (told[0], told[-1]))
        twin.enter(1, 1, "new")
        line.undo()
        line.redo()
        self.assertEqual(looks(line), told[-1])

    def test_a_twin_of_a_twin(self):
        line = Line(3)
        line.send("up", [7])
        twin = line.twin().twin()
        twin.act(0)
        self.assertEqual((line.arms(), twin.arms()), ([0, 0, 0], [7, 0, 0]))

    def test_two_lines_never_know_of_one_another(self):
        one, other = Line(4), Line(4)
        told_through(one, STORY)
        self.assertEqual(looks(other), looks(Line(4)))


class TestTold(LineCase):
    def test_each_list_that_is_told_is_a_new_one(self):
        line = Line(4)
        told_through(line, STORY[:14])
        line.fog(0)
        line.doze(1)
        before = looks(line)
        for name in ("arms", "asleep", "fogs", "ready", "under_way", "words", "deeds"):
            told = getattr(line, name)()
            told.append(9)
            told.reverse()
        for name in ("waiting", "sent", "heard"):
            getattr(line, name)("up").insert(0, 9)
        for part in line.freed():
            part.append(9)
        line.slips("up", 0).append(9)
        self.assertNotEqual((line.words(), line.slips("up", 0)), ([], []))
        self.assertEqual(looks(line), before)

    def test_a_told_message_is_a_new_one(self):
        line = Line(2)
        line.say("up", ["tide"])
        line.settle()
        line.message("up").append("out")
        self.assertEqual(line.message("up"), ["tide"])

    def test_what_was_told_stays_so(self):
        line = Line(4)
        line.send("up", [7])
        told = (line.arms(), line.waiting("up"), line.ready(), line.deeds(), line.sent("up"), line.words(), line.asleep())
        kept = tuple(list(part) for part in told)
        told_through(line, [("beat",), ("doze", 3), ("enter", 1, 1, "a")])
        self.assertEqual(told, kept)

    def test_looks_change_nothing(self):
        line = Line(4)
        for deed in STORY:
            do(line, *deed)
            self.assertEqual(looks(line), looks(line))


if __name__ == "__main__":
    unittest.main()
