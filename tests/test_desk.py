"""Point [22] of DOC.md: a desk answers any text."""

import inspect
import random
import unittest

from mastword.desk import Desk
from mastword.line import Line
from mastword.page import page, read_page
from tests.keepers import DEEDS, PLAIN_LOOKS, SIGN_LOOKS, WAY_LOOKS, SecondLine, any_deed, do, looks

# The names of looks that a desk has other names for, or none.
NAMES = {"under_way": "under", "to_ask": "toask"}
NOT_ASKED = ("masts", "deeds")


def numbers(told):
    """Numbers, masts, signs or words with one blank between, none for none."""
    return " ".join(str(part) for part in told) if told else "none"


def rows(told):
    """Rows of several parts, with a semicolon and a blank between two."""
    return "; ".join(numbers(row) for row in told) if told else "none"


def freed(told):
    masts, gaps = told
    parts = (["wake " + numbers(masts)] if masts else []) + (["lift " + numbers(gaps)] if gaps else [])
    return "; ".join(parts) if parts else "none"


def or_text(text):
    return lambda told: text if told is None else str(told)


WRITTEN = {
    "arms": numbers, "ready": numbers, "asleep": numbers, "fogs": numbers, "way": str, "waits": str, "waiting": numbers,
    "sent": numbers, "heard": numbers, "message": numbers, "under": rows, "row": or_text("lost"), "slips": rows,
    "askings": str, "toask": or_text("none"), "freed": freed, "needed": or_text("never"), "words": rows,
}


def answer(name, told):
    """The answer to a deed or a look whose outcome is told, a second reading."""
    if told[0] == "refused":
        return told[1] if told[2] is None else f"{told[1]} {told[2]}"
    if name in WRITTEN:
        return WRITTEN[name](told[1])
    if told[1] is None:
        return "done"
    return numbers(told[1]) if isinstance(told[1], list) else str(told[1])


def asked(desk, *texts):
    return [desk.ask(text) for text in texts]


class DeskCase(unittest.TestCase):
    def assert_answers(self, desk, *pairs):
        for text, wanted in pairs:
            self.assertEqual(desk.ask(text), wanted, text)

    def assert_refused(self, wanted, desk, text):
        before = looks(desk.line)
        self.assertEqual(desk.ask(text), wanted, text)
        self.assertEqual(looks(desk.line), before, text)


class TestDesk(DeskCase):
    def test_names_and_arguments_are_as_written(self):
        self.assertEqual(list(inspect.signature(Desk).parameters), ["line"])
        self.assertEqual(list(inspect.signature(vars(Desk)["ask"]).parameters)[1:], ["text"])

    def test_the_line_is_the_very_one_handed_in(self):
        line = Line(3)
        desk = Desk(line)
        self.assertIs(desk.line, line)
        desk.ask("send up 7")
        self.assertIs(desk.line, line)
        self.assertEqual(line.waiting("up"), [7])
        line.act(0)
        self.assertEqual(desk.ask("arms"), "7 0 0")

    def test_two_desks(self):
        one, other = Desk(Line(3)), Desk(Line(3))
        one.ask("send up 7")
        self.assertEqual(asked(other, "waiting up", "page"), ["none", "masts 3"])

    def test_two_desks_with_one_line(self):
        line = Line(3)
        one, other = Desk(line), Desk(line)
        one.ask("send up 7")
        self.assertEqual(asked(other, "waiting up", "undo", "waiting up"), ["7", "done", "none"])


class TestDeeds(DeskCase):
    def test_each_deed(self):
        desk = Desk(Line(4))
        self.assert_answers(
            desk,
            ("enter 3 40 tide", "done"), ("send up 3 40", "done"), ("express up 7", "done"), ("say up tide a", "done"),
            ("recall up", "67"), ("act 0", "done"), ("slip 1 8 9", "done"), ("doze 3", "done"), ("fog 2", "done"),
            ("beat", "0"), ("beat", "none"), ("lift 2", "done"), ("beat", "2"), ("beat", "1"), ("settle", "1"),
            ("settle", "0"), ("wake 3", "done"), ("beat", "3"), ("beat", "2"), ("beat", "1 3"),
            ("settle", "20"), ("lose up 1 0", "done"), ("burn 2", "done"), ("ask up 2 0", "9"), ("ask up 1 0", "8"), ("turn", "done"), ("strike 3 40", "done"),
        )
        self.assertEqual(desk.line.heard("up"), [9, 3, 40, 3, 40, 41])

    def test_undo_and_redo(self):
        desk = Desk(Line(3))
        self.assert_answers(
            desk, ("undo", "NothingLeft"), ("redo", "NothingLeft"), ("send up 7", "done"), ("beat", "0"), ("undo", "done"),
            ("arms", "0 0 0"), ("redo", "done"), ("arms", "7 0 0"), ("redo", "NothingLeft"), ("undo", "done"),
            ("undo", "done"), ("undo", "NothingLeft"), ("redo", "done"), ("waiting up", "7"), ("doze 1", "done"),
            ("redo", "NothingLeft"),
        )

    def test_what_is_no_deed_lets_go_nothing(self):
        desk = Desk(Line(3))
        asked(desk, "send up 7", "undo")
        self.assert_answers(
            desk, ("beat", "none"), ("settle", "0"), ("act 0", "NotReady"), ("what", "what"), ("arms", "0 0 0"),
            ("page", "masts 3"), ("redo", "done"), ("waiting up", "7"),
        )


class TestLooks(DeskCase):
    def test_without_anything_to_tell(self):
        self.assert_answers(
            Desk(Line(3)),
            ("arms", "0 0 0"), ("ready", "none"), ("asleep", "none"), ("fogs", "none"), ("way", "up"),
            ("waits 0", "nothing comes"), ("waiting up", "none"), ("waiting down", "none"), ("sent up", "none"),
            ("heard down", "none"), ("message up", "none"), ("under", "none"), ("freed", "none"), ("needed", "0"),
            ("words", "none"), ("page", "masts 3"), ("row up 0 0", "NoRow"), ("slips up 0", "NoRow"),
            ("askings up 0", "NoRow"), ("toask down 0", "NoRow"),
        )

    def test_with_something_to_tell(self):
        desk = Desk(Line(5))
        asked(desk, "send up 7 8", "act 0", "slip 1 7 9", "act 0", "act 2", "act 1", "act 0")
        self.assert_answers(
            desk, ("arms", "8 0 9 0 0"), ("ready", "3"), ("under", "1 0 0; 0 2 2"), ("waits 2", "not copied ahead"),
            ("waits 0", "not copied ahead"), ("waits 1", "not clear ahead"), ("waits 3", "ready"), ("sent up", "7 8"),
            ("needed", "8"),
        )
        asked(desk, "doze 4", "doze 3", "fog 3", "fog 0")
        self.assert_answers(
            desk, ("asleep", "3 4"), ("fogs", "0 3"), ("freed", "wake 3 4; lift 0 3"), ("needed", "never"),
            ("ready", "none"), ("waits 3", "asleep"), ("waits 0", "fog ahead"), ("waits 1", "fog behind"),
        )
        asked(desk, "wake 3", "wake 4")
        self.assert_answers(desk, ("freed", "lift 0 3"), ("asleep", "none"))
        asked(desk, "lift 0", "lift 3", "doze 3")
        self.assert_answers(desk, ("freed", "wake 3"), ("fogs", "none"))
        asked(desk, "wake 3", "settle", "lose up 1 0", "burn 3")
        self.assert_answers(
            desk, ("heard up", "9 8"), ("row up 1 0", "lost"), ("row up 2 0", "9"), ("row up 0 1", "8"),
            ("slips up 0", "0 2 7 9"), ("askings up 0", "1"), ("toask up 0", "1"), ("slips up 1", "none"),
            ("askings up 1", "0"), ("toask up 1", "none"), ("under", "none"), ("needed", "0"),
        )
        asked(desk, "ask up 1 0", "burn 2")
        self.assert_answers(desk, ("slips up 0", "1 4 7 9"), ("toask up 0", "2"), ("askings up 0", "2"))

    def test_several_stretches(self):
        desk = Desk(Line(4))
        asked(desk, "send up 7", "act 0", "slip 1 8 9", "settle")
        self.assert_answers(desk, ("slips up 0", "0 1 7 8; 1 2 8 9"), ("toask up 0", "none"), ("askings up 0", "0"))

    def test_on_the_way_down(self):
        desk = Desk(Line(4))
        asked(desk, "turn", "send down 7 8", "send up 5", "act 3", "slip 2 7 9", "act 3", "fog 0", "doze 2")
        self.assert_answers(
            desk, ("way", "down"), ("arms", "0 0 9 0"), ("under", "0 2 2"), ("waiting down", "8"), ("waiting up", "5"),
            ("sent down", "7"), ("sent up", "none"), ("freed", "wake 2; lift 0"), ("waits 1", "fog ahead"),
        )
        asked(desk, "lift 0", "wake 2", "settle", "burn 1", "burn 2")
        self.assert_answers(desk, ("slips down 0", "3 0 7 9"), ("toask down 0", "2"), ("askings down 0", "2"))

    def test_words_and_messages(self):
        desk = Desk(Line(2))
        asked(desk, "enter 3 40 tide", "enter 3 4 out", "enter 1 9 up", "say up tide out z", "settle")
        self.assert_answers(
            desk, ("words", "1 9 up; 3 4 out; 3 40 tide"), ("message up", "tide out z"), ("message down", "none"),
            ("strike 3 4", "done"), ("message up", "BadSigns 3"), ("enter 3 4 in", "done"), ("message up", "tide in z"),
            ("words", "1 9 up; 3 4 in; 3 40 tide"),
        )

    def test_page(self):
        desk = Desk(Line(3))
        asked(desk, "send up 7", "beat", "doze 1", "undo")
        self.assertEqual(desk.ask("page"), "masts 3\nsend up 7\nbeat")
        self.assertEqual(looks(read_page(desk.ask("page"))), looks(desk.line))

    def test_looks_change_nothing(self):
        desk = Desk(Line(4))
        asked(desk, "enter 1 1 a", "say up a b", "beat", "beat", "lose up 1 0", "doze 1", "doze 2", "undo")
        before = looks(desk.line)
        for text in (
            "arms", "ready", "asleep", "fogs", "way", "waits 1", "waiting up", "sent up", "heard up", "message up", "under",
            "row up 1 0", "slips up 0", "askings up 0", "toask up 0", "freed", "needed", "words", "page",
        ):
            self.assertNotEqual(desk.ask(text), "what", text)
        self.assertEqual(looks(desk.line), before)
        self.assertEqual(desk.ask("redo"), "done")


class TestRefusals(DeskCase):
    def test_each_name(self):
        desk = Desk(Line(4))
        for text, wanted in (
            ("undo", "NothingLeft"), ("redo", "NothingLeft"), ("act 4", "NoMast"), ("fog 3", "NoMast"),
            ("waits 4", "NoMast"), ("row up 4 0", "NoMast"), ("lose up 4 0", "NoMast"), ("doze 999999", "NoMast"),
            ("send up 0", "BadSign"), ("express down 5 95", "BadSign"), ("slip 0 0 5", "BadSign"),
            ("send up" + " 5" * 61, "Full"), ("express up" + " 5" * 61, "Full"), ("say up" + " abcdefghijkl" * 5, "Full"),
            ("recall up", "NothingWaits"), ("recall down", "NothingWaits"), ("act 0", "NotReady"),
            ("slip 0 5 5", "NotReady"), ("wake 0", "Awake"), ("lift 0", "Clear"), ("burn 0", "NoBook"),
            ("lose up 3 0", "NoBook"), ("lose up 1 0", "NoRow"), ("ask up 0 0", "NoRow"), ("row up 0 0", "NoRow"),
            ("slips up 0", "NoRow"), ("askings down 0", "NoRow"), ("toask up 0", "NoRow"), ("enter 0 1 a", "BadPlace"),
            ("strike 1 41", "BadPlace"), ("strike 1 1", "NoWord"),
        ):
            self.assert_refused(wanted, desk, text)
        asked(desk, "send up 7", "doze 3", "fog 2", "enter 1 1 a")
        for text, wanted in (
            ("slip 0 8 7", "BadSlip"), ("doze 3", "Asleep"), ("fog 2", "Fogged"), ("enter 1 1 b", "Taken"),
            ("enter 1 2 a", "Known"),
        ):
            self.assert_refused(wanted, desk, text)
        asked(desk, "act 0", "act 1")
        for text, wanted in (("slip 0 7 7", "NotRaising"), ("turn", "Busy"), ("ask up 1 0", "Legible")):
            self.assert_refused(wanted, desk, text)
        asked(desk, "lose up 1 0")
        self.assert_refused("Lost", desk, "lose up 1 0")

    def test_signs_that_are_wrong(self):
        for signs, wanted in (("68", 0), ("41 67 67", 2), ("3", 1), ("3 4", 1), ("41 68 68", 2), ("94", 0)):
            for way in ("up", "down"):
                desk = Desk(Line(2))
                asked(desk, *(["turn"] if way == "down" else []), f"send {way} {signs}", "settle")
                self.assert_refused(f"BadSigns {wanted}", desk, f"message {way}")


class TestWhat(DeskCase):
    def test_texts_that_are_none(self):
        desk = Desk(Line(3))
        asked(desk, "enter 1 1 a", "say up a", "beat", "doze 2", "undo")
        for text in (
            "", " ", "\n", "~", "what", "done", "none", "hello", "undo ", " undo", "undo 1", "Undo", "redo\n", "redo redo",
            "twin", "masts", "masts 3", "deeds", "under_way", "to_ask up 0", "arms 0", "arms ", " arms", "Arms", "ready up",
            "way up", "waits", "waits up", "waits 01", "waits 1000000", "waits -1", "waits 1 1", "waits  1", "waiting",
            "waiting left", "waiting up down", "waiting Up", "sent", "sent 1", "heard", "heard up ", "message", "message a",
            "message up 0", "under 0", "row up 1", "row up 1 0 0", "row 1 0", "row left 1 0", "row up 01 0", "row up 1 -1",
            "slips", "slips up", "slips 0", "slips up 0 0", "slips up x", "askings up", "askings left 0", "toask up",
            "toask", "freed 1", "needed now", "words a", "page 1", "page\n", "pages", "send up", "send left 3", "say up A",
            "act", "act x", "act 1234567", "beat 1", "settle 1", "turn down", "enter 1 1", "strike 1", "arms\nready",
            "read_page", "None", "number", "ask up 1", "ask", "line", "BadLine",
        ):
            self.assert_refused("what", desk, text)
        self.assertEqual(desk.ask("redo"), "done")


class TestWalks(unittest.TestCase):
    def test_deeds_and_looks_against_a_second_reading(self):
        for masts in (2, 3, 5):
            for seed in range(8):
                chance, desk, second = random.Random(seed), Desk(Line(masts)), SecondLine(masts)
                for step in range(80):
                    deed = any_deed(chance, second)
                    self.assert_deed(desk, second, deed)
                    if step % 4 == 0:
                        self.assert_looks(desk, second)

    def assert_deed(self, desk, second, deed):
        text = " ".join(str(part) for part in deed)
        readable = all(part not in ("", "left", "Tide", "abcdefghijklm") and str(part)[:1] != "-" for part in deed)
        told = do(second, *deed) if readable else None
        self.assertEqual(desk.ask(text), answer(deed[0], told) if readable else "what", text)

    def assert_looks(self, desk, second):
        for look, told in looks(second).items():
            if look[0] in NOT_ASKED:
                continue
            name = NAMES.get(look[0], look[0])
            text = " ".join(str(part) for part in (name, *look[1:]))
            self.assertEqual(desk.ask(text), "what" if "-" in text else answer(name, told), text)
        self.assertEqual(desk.ask("page"), "\n".join([f"masts {second.masts()}", *second.deeds()]))

    def test_all_that_a_line_can_do_and_tell_can_be_asked(self):
        desk = Desk(Line(3))
        self.assertEqual({NAMES.get(name, name) for name in [*PLAIN_LOOKS, *WAY_LOOKS, *SIGN_LOOKS, "row", "waits"]
                          if name not in NOT_ASKED}, set(WRITTEN))
        for name in DEEDS:
            parts = {"send": "up 1", "express": "up 1", "say": "up a", "recall": "up", "beat": "", "settle": "", "turn": "",
                     "lose": "up 1 0", "ask": "up 1 0", "enter": "1 1 a", "strike": "1 1", "slip": "1 1 1"}.get(name, "1")
            self.assertNotEqual(desk.ask(f"{name} {parts}".strip()), "what", name)


if __name__ == "__main__":
    unittest.main()
