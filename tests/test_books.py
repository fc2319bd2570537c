"""Points [1], [10] to [13], [15] to [17] and [18] of DOC.md: books, slips told by them, words and messages of a line."""

import unittest

from mastword.line import Line
from tests.keepers import BEYOND, NO_WAYS, NO_WORDS, WAYS, LineCase, line_on, masts_on, outcome

NO_PLACES = [0, 41, -1, *BEYOND]


def sent_along(way, masts, sign, slips):
    """A line along which one sign has come; slips gives (written, shown) for places."""
    line, along = line_on(way, masts), masts_on(way, masts)
    line.send(way, [sign])
    for place, mast in enumerate(along):
        if place in slips:
            line.slip(mast, *slips[place])
        else:
            line.act(mast)
    line.settle()
    return line


class TestRow(LineCase):
    def test_rows_of_both_ways(self):
        line = Line(3)
        line.send("up", [7, 8])
        line.settle()
        line.turn()
        line.send("down", [9])
        line.settle()
        for mast in range(3):
            self.assertEqual([line.row("up", mast, number) for number in (0, 1)], [7, 8])
            self.assertEqual(line.row("down", mast, 0), 9)
            self.assertEqual(outcome(line.row, "up", mast, 2), ("refused", "NoRow", None))
            self.assertEqual(outcome(line.row, "down", mast, 1), ("refused", "NoRow", None))

    def test_refusals_and_which_goes_first(self):
        line = sent_along("up", 3, 7, {})
        for way in NO_WAYS:
            self.assertEqual(outcome(line.row, way, 1, 0)[1], "BadWay")
            self.assertEqual(outcome(line.row, way, 3, 1)[1], "BadWay")
        for mast in [-1, 3, -3, *BEYOND]:
            self.assertEqual(outcome(line.row, "up", mast, 0)[1], "NoMast")
            self.assertEqual(outcome(line.row, "up", mast, -1)[1], "NoMast")
        for number in [-1, 1, *BEYOND]:
            for mast in range(3):
                self.assertEqual(outcome(line.row, "up", mast, number)[1], "NoRow")

    def test_a_row_is_written_at_the_raising(self):
        line = Line(3)
        line.send("up", [7])
        for mast in range(3):
            self.assertEqual(outcome(line.row, "up", mast, 0)[1], "NoRow")
            line.act(mast)
            self.assertEqual(line.row("up", mast, 0), 7)


class TestLose(LineCase):
    def test_a_lost_row_tells_nothing(self):
        for way in WAYS:
            line = sent_along(way, 4, 7, {})
            line.send(way, [8])
            line.settle()
            self.assert_done(None, line, "lose", way, 1, 0)
            self.assertEqual([line.row(way, 1, 0), line.row(way, 1, 1), line.row(way, 2, 0)], [None, 8, 7])
            self.assert_done(None, line, "lose", way, 2, 1)
            self.assertEqual([line.row(way, 1, 0), line.row(way, 1, 1), line.row(way, 2, 1)], [None, 8, None])

    def test_the_same_number_of_the_other_way_stands(self):
        line = sent_along("up", 3, 7, {})
        line.turn()
        line.send("down", [9])
        line.settle()
        self.assert_done(None, line, "lose", "up", 1, 0)
        self.assertEqual((line.row("up", 1, 0), line.row("down", 1, 0)), (None, 9))
        self.assert_done(None, line, "lose", "down", 1, 0)
        self.assertEqual((line.row("up", 1, 0), line.row("down", 1, 0)), (None, None))

    def test_refusals(self):
        line = sent_along("up", 4, 7, {})
        for way in NO_WAYS:
            self.assert_refused("BadWay", line, "lose", way, 1, 0)
        for mast in [-1, 4, -4, *BEYOND]:
            self.assert_refused("NoMast", line, "lose", "up", mast, 0)
        for mast in (0, 3):
            self.assert_refused("NoBook", line, "lose", "up", mast, 0)
        for number in [-1, 1, *BEYOND]:
            self.assert_refused("NoRow", line, "lose", "up", 1, number)
        self.assert_refused("NoRow", line, "lose", "down", 1, 0)
        line.lose("up", 1, 0)
        self.assert_refused("Lost", line, "lose", "up", 1, 0)

    def test_which_refusal_goes_first(self):
        line = sent_along("up", 4, 7, {})
        self.assert_refused("BadWay", line, "lose", "left", 4, 9)
        self.assert_refused("BadWay", line, "lose", "left", 0, 0)
        self.assert_refused("NoMast", line, "lose", "up", 4, 9)
        self.assert_refused("NoBook", line, "lose", "up", 0, 9)
        self.assert_refused("NoBook", line, "lose", "down", 3, -1)
        line.lose("up", 1, 0)
        self.assert_refused("NoRow", line, "lose", "up", 1, 1)

    def test_a_line_of_two_masts_has_no_books(self):
        line = sent_along("up", 2, 7, {})
        for mast in (0, 1):
            self.assert_refused("NoBook", line, "lose", "up", mast, 0)
            self.assert_refused("NoBook", line, "burn", mast)

    def test_sent_and_heard_come_from_sheets(self):
        for way in WAYS:
            line = sent_along(way, 4, 7, {})
            line.burn(1)
            line.burn(2)
            self.assertEqual((line.sent(way), line.heard(way)), ([7], [7]))


class TestBurn(LineCase):
    def test_all_rows_of_both_ways_that_stand_now(self):
        line = Line(4)
        line.send("up", [7, 8])
        line.settle()
        line.turn()
        line.send("down", [9])
        line.settle()
        line.lose("up", 1, 0)
        self.assert_done(None, line, "burn", 1)
        self.assertEqual([line.row("up", 1, 0), line.row("up", 1, 1), line.row("down", 1, 0)], [None, None, None])
        self.assertEqual([line.row("up", 2, 0), line.row("up", 2, 1), line.row("down", 2, 0)], [7, 8, 9])
        line.send("down", [10])
        line.settle()
        self.assertEqual([line.row("down", 1, 0), line.row("down", 1, 1)], [None, 10])

    def test_an_empty_book_burns_too(self):
        line = Line(3)
        self.assert_done(None, line, "burn", 1)
        self.assert_done(None, line, "burn", 1)
        line.send("up", [7])
        line.settle()
        self.assertEqual(line.row("up", 1, 0), 7)

    def test_taking_it_back_leaves_lost_what_was_lost(self):
        line = Line(3)
        line.send("up", [7, 8, 9])
        line.settle()
        line.lose("up", 1, 1)
        line.burn(1)
        line.undo()
        self.assertEqual([line.row("up", 1, number) for number in range(3)], [7, None, 9])
        line.redo()
        self.assertEqual([line.row("up", 1, number) for number in range(3)], [None, None, None])

    def test_refusals(self):
        for masts in (3, 12):
            line = Line(masts)
            for mast in [-1, masts, -masts, *BEYOND]:
                self.assert_refused("NoMast", line, "burn", mast)
            for mast in (0, masts - 1):
                self.assert_refused("NoBook", line, "burn", mast)


class TestAsk(LineCase):
    def test_the_keeper_tells_what_was_written(self):
        for way in WAYS:
            line = sent_along(way, 4, 7, {1: (5, 6)})
            mast = masts_on(way, 4)[1]
            line.burn(mast)
            self.assert_done(5, line, "ask", way, mast, 0)
            self.assertEqual(line.row(way, mast, 0), 5)
            self.assert_refused("Legible", line, "ask", way, mast, 0)
            self.assert_done(None, line, "lose", way, mast, 0)
            self.assert_done(5, line, "ask", way, mast, 0)

    def test_refusals(self):
        line = sent_along("up", 4, 7, {})
        for way in NO_WAYS:
            self.assert_refused("BadWay", line, "ask", way, 1, 0)
        for mast in [-1, 4, -4, *BEYOND]:
            self.assert_refused("NoMast", line, "ask", "up", mast, 0)
        for number in [-1, 1, *BEYOND]:
            for mast in range(4):
                self.assert_refused("NoRow", line, "ask", "up", mast, number)
        for mast in range(4):
            self.assert_refused("NoRow", line, "ask", "down", mast, 0)
            self.assert_refused("Legible", line, "ask", "up", mast, 0)

    def test_which_refusal_goes_first(self):
        line = sent_along("up", 4, 7, {})
        self.assert_refused("BadWay", line, "ask", "left", 4, 9)
        self.assert_refused("NoMast", line, "ask", "up", -1, 9)
        self.assert_refused("NoRow", line, "ask", "up", 0, 1)

    def test_the_sheets_rows_are_never_lost(self):
        for way in WAYS:
            line = sent_along(way, 3, 7, {})
            line.burn(1)
            for mast in (0, 2):
                self.assert_refused("Legible", line, "ask", way, mast, 0)


class TestSlips(LineCase):
    def told(self, line, way, number):
        return line.slips(way, number), line.askings(way, number), line.to_ask(way, number)

    def test_no_slip(self):
        for way in WAYS:
            line = sent_along(way, 5, 7, {})
            self.assertEqual(self.told(line, way, 0), ([], 0, None))
            line.burn(2)
            self.assertEqual(self.told(line, way, 0), ([], 0, None))

    def test_taken_wrongly_shown_wrongly_or_both(self):
        for way in WAYS:
            a, b, c, d, e = masts_on(way, 5)
            self.assertEqual(sent_along(way, 5, 7, {2: (8, 8)}).slips(way, 0), [(b, c, 7, 8)])
            self.assertEqual(sent_along(way, 5, 7, {2: (7, 8)}).slips(way, 0), [(c, d, 7, 8)])
            self.assertEqual(sent_along(way, 5, 7, {2: (8, 9)}).slips(way, 0), [(b, c, 7, 8), (c, d, 8, 9)])
            self.assertEqual(sent_along(way, 5, 7, {2: (8, 7)}).slips(way, 0), [(b, c, 7, 8), (c, d, 8, 7)])
            self.assertEqual(sent_along(way, 5, 7, {0: (7, 3)}).slips(way, 0), [(a, b, 7, 3)])
            self.assertEqual(sent_along(way, 5, 7, {4: (3, 7)}).slips(way, 0), [(d, e, 7, 3)])
            # What the last one shows is written nowhere.
            self.assertEqual(sent_along(way, 5, 7, {4: (7, 3)}).slips(way, 0), [])

    def test_lost_rows_between(self):
        for way in WAYS:
            along = masts_on(way, 7)
            line = sent_along(way, 7, 7, {3: (8, 8)})
            for place in (2, 3, 4):
                line.lose(way, along[place], 0)
            self.assertEqual(self.told(line, way, 0), ([(along[1], along[5], 7, 8)], 2, along[3]))
            for place in (1, 5):
                line.burn(along[place])
            self.assertEqual(self.told(line, way, 0), ([(along[0], along[6], 7, 8)], 3, along[3]))

    def test_several_stretches(self):
        for way in WAYS:
            along = masts_on(way, 9)
            line = sent_along(way, 9, 7, {1: (8, 8), 4: (9, 9), 7: (10, 10)})
            self.assertEqual(self.told(line, way, 0), (
                [(along[0], along[1], 7, 8), (along[3], along[4], 8, 9), (along[6], along[7], 9, 10)], 0, None))
            for place in (3, 4, 5, 6, 7):
                line.lose(way, along[place], 0)
            self.assertEqual(self.told(line, way, 0), (
                [(along[0], along[1], 7, 8), (along[2], along[8], 8, 10)], 3, along[5]))
            self.assertEqual(line.ask(way, along[5], 0), 9)
            self.assertEqual(self.told(line, way, 0), (
                [(along[0], along[1], 7, 8), (along[2], along[5], 8, 9), (along[5], along[8], 9, 10)], 4, along[3]))

    def test_a_slip_undone_by_another_one_is_not_seen_between_lost_rows(self):
        for way in WAYS:
            along = masts_on(way, 5)
            line = sent_along(way, 5, 7, {1: (8, 8), 3: (7, 7)})
            line.lose(way, along[1], 0)
            self.assertEqual(line.slips(way, 0), [(along[0], along[2], 7, 8), (along[2], along[3], 8, 7)])
            line.lose(way, along[2], 0)
            self.assertEqual(self.told(line, way, 0), ([], 0, None))

    def test_rows_that_are_not_written_yet_are_left_out(self):
        for way in WAYS:
            line, along = line_on(way, 6), masts_on(way, 6)
            line.send(way, [7])
            line.act(along[0])
            self.assertEqual(self.told(line, way, 0), ([], 0, None))
            line.slip(along[1], 7, 8)
            self.assertEqual(self.told(line, way, 0), ([], 0, None))
            line.act(along[2])
            self.assertEqual(self.told(line, way, 0), ([(along[1], along[2], 7, 8)], 0, None))
            line.lose(way, along[1], 0)
            self.assertEqual(self.told(line, way, 0), ([(along[0], along[2], 7, 8)], 1, along[1]))
            # The foremost row is lost: the last one told is none, and so nothing is told of a change.
            line.lose(way, along[2], 0)
            self.assertEqual(self.told(line, way, 0), ([], 0, None))
            line.act(along[3])
            self.assertEqual(self.told(line, way, 0), ([(along[0], along[3], 7, 8)], 2, along[1]))

    def test_asking_until_none(self):
        for way in WAYS:
            for slip in range(1, 12):
                line, along = sent_along(way, 12, 7, {slip: (8, 8)}), masts_on(way, 12)
                for mast in range(1, 11):
                    line.burn(mast)
                at_most, asked = line.askings(way, 0), 0
                self.assertEqual((at_most, line.slips(way, 0)), (4, [(along[0], along[11], 7, 8)]))
                while line.to_ask(way, 0) is not None:
                    line.ask(way, line.to_ask(way, 0), 0)
                    asked += 1
                self.assertLessEqual(asked, at_most)
                self.assertEqual(line.slips(way, 0), [(along[slip - 1], along[slip], 7, 8)])
                self.assertEqual(line.askings(way, 0), 0)

    def test_each_sign_has_its_own(self):
        for way in WAYS:
            line, along = line_on(way, 3), masts_on(way, 3)
            line.send(way, [7, 7])
            line.act(along[0])
            line.slip(along[1], 8, 7)
            line.settle()
            self.assertEqual(line.slips(way, 0), [(along[0], along[1], 7, 8), (along[1], along[2], 8, 7)])
            self.assertEqual(line.slips(way, 1), [])

    def test_of_the_way_on_which_the_line_does_not_go_now(self):
        for way in WAYS:
            line, along = sent_along(way, 4, 7, {1: (8, 8)}), masts_on(way, 4)
            line.burn(along[1])
            told = self.told(line, way, 0)
            self.assertEqual(told, ([(along[0], along[2], 7, 8)], 1, along[1]))
            line.turn()
            self.assertEqual(self.told(line, way, 0), told)

    def test_refusals_and_which_goes_first(self):
        line = sent_along("up", 3, 7, {})
        line.send("up", [8])
        for name in ("slips", "askings", "to_ask"):
            for way in NO_WAYS:
                self.assertEqual(outcome(getattr(line, name), way, 0), ("refused", "BadWay", None))
                self.assertEqual(outcome(getattr(line, name), way, -1), ("refused", "BadWay", None))
            for number in [-1, 1, *BEYOND]:
                self.assertEqual(outcome(getattr(line, name), "up", number), ("refused", "NoRow", None))
            self.assertEqual(outcome(getattr(line, name), "down", 0), ("refused", "NoRow", None))
            line.act(0)
            self.assertEqual(outcome(getattr(line, name), "up", 1)[0], "told")
            line.undo()


class TestWords(LineCase):
    def test_enter_and_strike(self):
        line = Line(2)
        self.assert_done(None, line, "enter", 3, 40, "tide")
        self.assert_done(None, line, "enter", 1, 1, "a" * 12)
        self.assert_done(None, line, "enter", 40, 40, "z")
        self.assertEqual(line.words(), [(1, 1, "a" * 12), (3, 40, "tide"), (40, 40, "z")])
        line.undo()
        self.assert_done(None, line, "strike", 3, 40)
        self.assertEqual(line.words(), [(1, 1, "a" * 12)])
        self.assert_done(None, line, "enter", 3, 40, "out")
        self.assert_done(None, line, "enter", 2, 2, "tide")

    def test_refusals_of_enter(self):
        line = Line(2)
        line.enter(3, 4, "tide")
        for number in NO_PLACES:
            self.assert_refused("BadPlace", line, "enter", number, 1, "new")
            self.assert_refused("BadPlace", line, "enter", 1, number, "new")
        for word in NO_WORDS:
            self.assert_refused("BadWord", line, "enter", 1, 1, word)
        self.assert_refused("Taken", line, "enter", 3, 4, "new")
        self.assert_refused("Known", line, "enter", 4, 3, "tide")

    def test_which_refusal_of_enter_goes_first(self):
        line = Line(2)
        line.enter(3, 4, "tide")
        self.assert_refused("BadPlace", line, "enter", 0, 4, "Tide")
        self.assert_refused("BadPlace", line, "enter", 3, 41, "tide")
        self.assert_refused("BadWord", line, "enter", 3, 4, "Tide")
        self.assert_refused("Taken", line, "enter", 3, 4, "tide")

    def test_refusals_of_strike(self):
        line = Line(2)
        line.enter(3, 4, "tide")
        for number in NO_PLACES:
            self.assert_refused("BadPlace", line, "strike", number, 4)
            self.assert_refused("BadPlace", line, "strike", 3, number)
        for page, row in ((4, 3), (1, 1), (40, 40)):
            self.assert_refused("NoWord", line, "strike", page, row)
        line.strike(3, 4)
        self.assert_refused("NoWord", line, "strike", 3, 4)

    def test_the_told_list_is_a_new_one(self):
        line = Line(2)
        line.enter(3, 4, "tide")
        line.words().clear()
        self.assertEqual(line.words(), [(3, 4, "tide")])


class TestMessage(LineCase):
    def test_what_was_said_is_heard(self):
        for way in WAYS:
            line = line_on(way, 4)
            line.enter(3, 40, "tide")
            line.say(way, ["tide", "out", "a" * 12])
            self.assertEqual(line.message(way), [])
            line.settle()
            self.assertEqual(line.message(way), ["tide", "out", "a" * 12])
            self.assertEqual(line.message({"up": "down", "down": "up"}[way]), [])

    def test_by_the_phrasebook_as_it_is_now(self):
        line = Line(2)
        line.enter(3, 40, "tide")
        line.say("up", ["tide"])
        line.settle()
        line.strike(3, 40)
        self.assertEqual(outcome(line.message, "up"), ("refused", "BadSigns", 1))
        line.enter(3, 40, "ebb")
        self.assertEqual(line.message("up"), ["ebb"])
        line.undo()
        line.undo()
        self.assertEqual(line.message("up"), ["tide"])

    def test_a_slip_changes_what_is_heard(self):
        line = Line(3)
        line.say("up", ["a"])
        line.act(0)
        line.slip(1, 42, 43)
        line.settle()
        self.assertEqual((line.message("up"), line.heard("up")), (["c"], [43, 67]))
        line = Line(3)
        line.say("up", ["a"])
        line.act(0)
        line.act(1)
        line.slip(2, 42, 94)
        line.settle()
        self.assertEqual((line.message("up"), line.heard("up")), (["b"], [42, 67]))

    def test_places_of_signs_that_are_wrong(self):
        for way in WAYS:
            for signs, at in (
                ([68], 0), ([41, 68, 68], 2), ([67], 0), ([41, 67, 69], 2), ([3], 1), ([3, 41], 1), ([3, 4], 1),
                ([41, 3], 1), ([41] * 13 + [67], 12), ([41], 1), ([41, 42, 68], 3), ([94, 68, 68], 2), ([41, 67, 94], 2),
            ):
                line = line_on(way, 2)
                line.send(way, signs)
                line.settle()
                self.assertEqual(outcome(line.message, way), ("refused", "BadSigns", at), signs)

    def test_struck_signs(self):
        line = Line(2)
        line.send("up", [41, 42, 68, 67, 94, 68])
        line.settle()
        self.assertEqual(line.message("up"), ["a"])

    def test_bad_way(self):
        for way in NO_WAYS:
            for name in ("message", "sent", "heard", "waiting"):
                self.assertEqual(outcome(getattr(Line(2), name), way), ("refused", "BadWay", None))
        line = Line(2)
        line.send("up", [68])
        line.settle()
        self.assertEqual(outcome(line.message, "left"), ("refused", "BadWay", None))


if __name__ == "__main__":
    unittest.main()
