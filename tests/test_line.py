"""Points [1] to [8] and [18] of DOC.md: a new line, signs that wait, acts, slips, sleep, fog, beats and turning."""

import inspect
import itertools
import unittest

from mastword.errors import BadCount, NothingLeft
from mastword.line import Line
from tests.keepers import BEYOND, NO_WAYS, NO_WORDS, WAYS, LineCase, do, line_on, looks, masts_on, outcome

NO_SIGNS = [0, 95, -1, -94, 100, *BEYOND]

DEEDS = {
    "send": ["way", "signs"], "express": ["way", "signs"], "say": ["way", "words"], "recall": ["way"],
    "act": ["mast"], "slip": ["mast", "seen", "shown"], "doze": ["mast"], "wake": ["mast"], "fog": ["gap"],
    "lift": ["gap"], "beat": [], "settle": [], "turn": [], "lose": ["way", "mast", "number"], "burn": ["mast"],
    "ask": ["way", "mast", "number"], "enter": ["page", "line", "word"], "strike": ["page", "line"],
    "undo": [], "redo": [], "twin": [],
}
LOOKS = {
    "masts": [], "way": [], "arms": [], "waiting": ["way"], "asleep": [], "fogs": [], "ready": [], "waits": ["mast"],
    "under_way": [], "sent": ["way"], "heard": ["way"], "message": ["way"], "words": [],
    "row": ["way", "mast", "number"], "slips": ["way", "number"], "askings": ["way", "number"],
    "to_ask": ["way", "number"], "freed": [], "needed": [], "deeds": [],
}


class TestInterface(unittest.TestCase):
    def test_methods_and_arguments_are_named_as_written(self):
        for name, arguments in {**DEEDS, **LOOKS}.items():
            method = vars(Line)[name]
            self.assertEqual(list(inspect.signature(method).parameters)[1:], arguments, name)
        self.assertEqual(list(inspect.signature(Line).parameters), ["masts"])


class TestNewLine(unittest.TestCase):
    def test_every_look(self):
        for masts in range(2, 13):
            line = Line(masts)
            self.assertEqual((line.masts(), line.way(), line.arms()), (masts, "up", [0] * masts))
            self.assertEqual((line.asleep(), line.fogs(), line.ready(), line.under_way()), ([], [], [], []))
            self.assertEqual((line.words(), line.freed(), line.needed(), line.deeds()), ([], ([], []), 0, []))
            for mast in range(masts):
                self.assertEqual(line.waits(mast), "nothing comes")
            for way in WAYS:
                self.assertEqual((line.waiting(way), line.sent(way), line.heard(way)), ([], [], []))
                self.assertEqual(line.message(way), [])
                for mast in range(masts):
                    self.assertEqual(outcome(line.row, way, mast, 0)[1], "NoRow")
                for name in ("slips", "askings", "to_ask"):
                    self.assertEqual(outcome(getattr(line, name), way, 0)[1], "NoRow")

    def test_bad_count(self):
        for masts in [1, 0, 13, 14, 100, -1, -2, -12, *BEYOND]:
            with self.assertRaises(BadCount):
                Line(masts)

    def test_nothing_is_left_to_take_back_or_to_do_again(self):
        for masts in range(2, 13):
            line = Line(masts)
            with self.assertRaises(NothingLeft):
                line.undo()
            with self.assertRaises(NothingLeft):
                line.redo()
            self.assertEqual(looks(line), looks(Line(masts)))


class TestKindsOfValues(unittest.TestCase):
    def test_lists_tuples_numbers_and_texts(self):
        line = Line(4)
        line.enter(1, 2, "tide")
        line.send("up", [1, 2, 3])
        line.settle()
        line.send("up", [4, 5])
        for deed in (("beat",), ("beat",), ("slip", 2, 7, 8), ("doze", 1), ("fog", 0), ("lose", "up", 1, 0)):
            do(line, *deed)
        wanted = {
            "masts": int, "way": str, "arms": list, "asleep": list, "fogs": list, "ready": list, "under_way": list,
            "words": list, "freed": tuple, "deeds": list,
        }
        for name, kind in wanted.items():
            self.assertIs(type(getattr(line, name)()), kind, name)
        self.assertEqual([type(part) for part in line.freed()], [list, list])
        for row in [*line.under_way(), *line.words(), *line.slips("up", 3)]:
            self.assertIs(type(row), tuple)
        self.assertEqual((len(line.under_way()), len(line.words()), len(line.slips("up", 3))), (1, 1, 1))
        for name in ("waiting", "sent", "heard"):
            self.assertIs(type(getattr(line, name)("up")), list, name)
        self.assertIs(type(line.slips("up", 0)), list)
        self.assertIs(type(line.twin()), Line)

    def test_true_and_false_are_told_nowhere(self):
        line = Line(3)
        line.send("up", [5])
        line.doze(1)
        line.fog(1)
        told = [line.asleep(), line.fogs(), line.ready(), line.arms()]
        self.assertEqual([[type(part) for part in part] for part in told], [[int], [int], [int], [int] * 3])


class TestSendAndExpress(LineCase):
    def test_send_puts_signs_behind_those_that_wait(self):
        for way, other in (WAYS, WAYS[::-1]):
            line = Line(3)
            self.assert_done(None, line, "send", way, 3, 94)
            self.assert_done(None, line, "send", way, 1)
            self.assertEqual((line.waiting(way), line.waiting(other)), ([3, 94, 1], []))

    def test_express_puts_signs_ahead_of_them_in_their_order(self):
        for way, other in (WAYS, WAYS[::-1]):
            line = Line(3)
            self.assert_done(None, line, "express", way, 3, 94)
            self.assert_done(None, line, "express", way, 1, 2)
            self.assert_done(None, line, "send", way, 9)
            self.assertEqual((line.waiting(way), line.waiting(other)), ([1, 2, 3, 94, 9], []))

    def test_on_the_way_on_which_the_line_does_not_go(self):
        for way, other in (WAYS, WAYS[::-1]):
            line = line_on(way, 3)
            line.send(other, [7])
            self.assertEqual((line.ready(), line.needed(), line.freed()), ([], 0, ([], [])))
            line.turn()
            self.assertEqual((line.ready(), line.waiting(other)), ([masts_on(other, 3)[0]], [7]))

    def test_every_sign_can_be_sent(self):
        line = Line(2)
        line.send("up", list(range(1, 61)))
        line.send("down", list(range(61, 95)))
        self.assertEqual(line.waiting("up") + line.waiting("down"), list(range(1, 95)))

    def test_sixty_wait_at_most(self):
        for name in ("send", "express"):
            for way, other in (WAYS, WAYS[::-1]):
                line = Line(2)
                self.assert_refused("Full", line, name, way, *[5] * 61)
                self.assert_refused("Full", line, name, way, *[5] * 200)
                self.assert_done(None, line, name, way, *[5] * 60)
                self.assert_refused("Full", line, name, way, 6)
                self.assert_done(None, line, name, other, *[7] * 59)
                self.assert_refused("Full", line, name, other, 7, 7)
                self.assert_done(None, line, name, other, 7)
                self.assertEqual((len(line.waiting(way)), len(line.waiting(other))), (60, 60))

    def test_a_sign_that_was_begun_waits_no_longer(self):
        line = Line(2)
        line.send("up", [5] * 60)
        line.act(0)
        line.send("up", [6])
        self.assert_refused("Full", line, "send", "up", 6)

    def test_refusals(self):
        for name in ("send", "express"):
            line = Line(3)
            for way in NO_WAYS:
                self.assert_refused("BadWay", line, name, way, 5)
            for sign in NO_SIGNS:
                self.assert_refused("BadSign", line, name, "down", sign)
                self.assert_refused("BadSign", line, name, "up", 5, sign, 6)
                self.assert_refused("BadSign", line, name, "up", sign, 5)
                self.assert_refused("BadSign", line, name, "up", 5, sign)

    def test_which_refusal_goes_first(self):
        for name in ("send", "express"):
            line = Line(3)
            line.send("up", [1] * 60)
            self.assert_refused("BadWay", line, name, "left", 0)
            self.assert_refused("BadWay", line, name, "left", *[1] * 61)
            self.assert_refused("BadSign", line, name, "up", 95)
            self.assert_refused("BadSign", line, name, "down", *[1] * 61, 0)

    def test_a_list_changed_behind_the_call(self):
        for name in ("send", "express"):
            line, signs = Line(3), [1, 2]
            getattr(line, name)("up", signs)
            self.assertEqual(signs, [1, 2])
            signs[0] = 9
            signs.append(8)
            self.assertEqual((line.waiting("up"), line.deeds()), ([1, 2], [name + " up 1 2"]))
            line.undo()
            line.redo()
            self.assertEqual((line.waiting("up"), line.deeds()), ([1, 2], [name + " up 1 2"]))

    def test_no_sign_at_all_does_nothing(self):
        for name in ("send", "express", "say"):
            line = Line(3)
            line.send("up", [1] * 60)
            for way in WAYS:
                self.assert_no_deed(("told", None), line, name, way)
            self.assert_refused("BadWay", line, name, "left")


class TestSay(LineCase):
    def test_words_go_by_the_phrasebook_as_it_is(self):
        for way in WAYS:
            line = Line(3)
            self.assert_done(None, line, "say", way, "az")
            line.enter(3, 40, "az")
            self.assert_done(None, line, "say", way, "az", "b")
            line.strike(3, 40)
            self.assert_done(None, line, "say", way, "az")
            self.assertEqual(line.waiting(way), [41, 66, 67, 3, 40, 42, 67, 41, 66, 67])

    def test_words_wait_behind_the_others(self):
        line = Line(3)
        line.send("up", [5])
        line.say("up", ["a"])
        self.assertEqual(line.waiting("up"), [5, 41, 67])

    def test_what_was_said_stays_as_it_was_said(self):
        line = Line(3)
        line.say("up", ["a"])
        line.enter(1, 1, "a")
        self.assertEqual((line.waiting("up"), line.deeds()), ([41, 67], ["say up a", "enter 1 1 a"]))
        line.undo()
        line.undo()
        self.assertEqual(line.waiting("up"), [])
        line.redo()
        line.redo()
        self.assertEqual(line.waiting("up"), [41, 67])

    def test_full_is_told_by_signs(self):
        for way in WAYS:
            line = Line(3)
            line.send(way, [1] * 47)
            self.assert_refused("Full", line, "say", way, "a" * 12, "b")
            self.assert_done(None, line, "say", way, "a" * 12)
            self.assertEqual(len(line.waiting(way)), 60)
            self.assert_refused("Full", line, "say", way, "b")
        line = Line(3)
        line.enter(1, 1, "b")
        line.send("up", [1] * 58)
        self.assert_done(None, line, "say", "up", "b")
        self.assert_refused("Full", line, "say", "up", "b")

    def test_refusals(self):
        line = Line(3)
        for way in NO_WAYS:
            self.assert_refused("BadWay", line, "say", way, "tide")
        for word in [*NO_WORDS, "a" * 5000]:
            self.assert_refused("BadWord", line, "say", "up", word)
            self.assert_refused("BadWord", line, "say", "down", "tide", word)
            self.assert_refused("BadWord", line, "say", "down", word, "tide")

    def test_which_refusal_goes_first(self):
        line = Line(3)
        line.send("up", [1] * 60)
        self.assert_refused("BadWay", line, "say", "left", "Tide")
        self.assert_refused("BadWord", line, "say", "up", "tide", "Tide")
        self.assert_refused("BadWord", line, "say", "up", "")

    def test_a_list_changed_behind_the_call(self):
        line, words = Line(3), ["a", "b"]
        line.say("up", words)
        self.assertEqual(words, ["a", "b"])
        words[0] = "z"
        words.append("c")
        self.assertEqual((line.waiting("up"), line.deeds()), ([41, 67, 42, 67], ["say up a b"]))


class TestRecall(LineCase):
    def test_the_sign_that_waits_last_is_told(self):
        for way, other in (WAYS, WAYS[::-1]):
            line = Line(3)
            line.send(way, [3, 5, 94])
            line.send(other, [8])
            self.assert_done(94, line, "recall", way)
            self.assert_done(5, line, "recall", way)
            self.assertEqual((line.waiting(way), line.waiting(other)), ([3], [8]))
            self.assert_done(3, line, "recall", way)
            self.assert_refused("NothingWaits", line, "recall", way)
            self.assert_done(8, line, "recall", other)

    def test_refusals(self):
        line = Line(3)
        for way in WAYS:
            self.assert_refused("NothingWaits", line, "recall", way)
        for way in NO_WAYS:
            self.assert_refused("BadWay", line, "recall", way)

    def test_a_sign_that_was_begun_is_not_recalled(self):
        line = Line(3)
        line.send("up", [3])
        line.act(0)
        self.assert_refused("NothingWaits", line, "recall", "up")


class TestAct(LineCase):
    def test_a_sign_from_end_to_end(self):
        for way in WAYS:
            for masts in (2, 3, 5, 12):
                line, along = line_on(way, masts), masts_on(way, masts)
                line.send(way, [7])
                shown = {mast: 0 for mast in along}
                for behind, mast in zip([None, *along], along):
                    self.assert_done(None, line, "act", mast)
                    shown[mast] = 7
                    if behind is not None:
                        self.assert_done(None, line, "act", behind)
                        shown[behind] = 0
                    self.assertEqual(line.arms(), [shown[mast] for mast in range(masts)])
                    self.assertEqual(line.row(way, mast, 0), 7)
                self.assert_done(None, line, "act", along[-1])
                self.assertEqual((line.arms(), line.heard(way)), ([0] * masts, [7]))

    def test_the_first_of_those_that_wait_is_begun(self):
        for way in WAYS:
            line, along = line_on(way, 3), masts_on(way, 3)
            line.send(way, [7, 8])
            line.act(along[0])
            self.assertEqual((line.waiting(way), line.sent(way), line.arms()[along[0]]), ([8], [7], 7))

    def test_refusals(self):
        line = Line(4)
        line.send("up", [7])
        for mast in [-1, 4, 5, -4, *BEYOND]:
            self.assert_refused("NoMast", line, "act", mast)
        for mast in (1, 2, 3):
            self.assert_refused("NotReady", line, "act", mast)
        line.doze(0)
        self.assert_refused("NotReady", line, "act", 0)

    def test_each_reason_is_a_refusal(self):
        for way in WAYS:
            line, along = line_on(way, 3), masts_on(way, 3)
            line.send(way, [7, 8])
            for deed, told in (
                (None, ["ready", "nothing comes", "nothing comes"]),
                (("fog", min(along[:2])), ["fog ahead", "fog behind", "nothing comes"]),
                (("lift", min(along[:2])), ["ready", "nothing comes", "nothing comes"]),
                (("act", along[0]), ["not copied ahead", "ready", "nothing comes"]),
                (("doze", along[1]), ["not copied ahead", "asleep", "nothing comes"]),
                (("wake", along[1]), ["not copied ahead", "ready", "nothing comes"]),
                (("act", along[1]), ["ready", "still shown behind", "ready"]),
                (("act", along[0]), ["not clear ahead", "not copied ahead", "ready"]),
                (("fog", min(along[1:])), ["not clear ahead", "fog ahead", "fog behind"]),
            ):
                if deed:
                    self.assert_done(None, line, *deed)
                self.assertEqual([line.waits(mast) for mast in along], told)
                for mast, why in zip(along, told):
                    if why != "ready":
                        self.assert_refused("NotReady", line, "act", mast)
                self.assertEqual(line.ready(), sorted(mast for mast, why in zip(along, told) if why == "ready"))

    def test_waits_refuses_what_is_no_mast(self):
        for masts in (2, 12):
            for mast in [-1, masts, masts + 1, -masts, *BEYOND]:
                self.assertEqual(outcome(Line(masts).waits, mast), ("refused", "NoMast", None))


class TestSlip(LineCase):
    def test_what_is_written_and_what_is_shown(self):
        for way in WAYS:
            for at in (1, 2, 3):
                line, along = line_on(way, 4), masts_on(way, 4)
                line.send(way, [7])
                for mast in along[:at]:
                    line.act(mast)
                self.assert_done(None, line, "slip", along[at], 8, 9)
                self.assertEqual((line.row(way, along[at], 0), line.arms()[along[at]]), (8, 9))
                line.settle()
                self.assertEqual([line.row(way, mast, 0) for mast in along], [7] * at + [8] + [9] * (3 - at))

    def test_at_the_first_place(self):
        for way in WAYS:
            line, along = line_on(way, 3), masts_on(way, 3)
            line.send(way, [7, 8])
            self.assert_done(None, line, "slip", along[0], 7, 94)
            self.assertEqual((line.sent(way), line.waiting(way), line.arms()[along[0]]), ([7], [8], 94))
            line.act(along[1])
            self.assertEqual(line.row(way, along[1], 0), 94)

    def test_bad_slip_at_the_first_place_alone(self):
        for way in WAYS:
            line, along = line_on(way, 3), masts_on(way, 3)
            line.send(way, [7, 8])
            for seen, shown in ((8, 7), (8, 8), (1, 7), (94, 94)):
                self.assert_refused("BadSlip", line, "slip", along[0], seen, shown)
            line.act(along[0])
            for seen, shown in ((8, 7), (8, 8), (7, 8), (1, 7), (94, 94)):
                self.assert_done(None, line, "slip", along[1], seen, shown)
                line.undo()

    def test_signs_that_are_alike(self):
        for way in WAYS:
            line, along = line_on(way, 3), masts_on(way, 3)
            line.send(way, [7])
            self.assert_done(None, line, "slip", along[0], 7, 7)
            self.assert_done(None, line, "slip", along[1], 7, 7)
            self.assert_done(None, line, "slip", along[2], 5, 5)
            self.assertEqual(([line.row(way, mast, 0) for mast in along], line.heard(way)), ([7, 7, 5], [5]))

    def test_slips_do_not_change_who_is_ready(self):
        plain, slipping = Line(3), Line(3)
        for line in (plain, slipping):
            line.send("up", [7])
        for mast in range(3):
            plain.act(mast)
            slipping.slip(mast, 7 if mast == 0 else 3, 4)
            self.assertEqual(plain.ready(), slipping.ready())
            self.assertEqual([plain.waits(mast) for mast in range(3)], [slipping.waits(mast) for mast in range(3)])

    def test_refusals(self):
        line = Line(3)
        line.send("up", [7])
        for mast in [-1, 3, *BEYOND]:
            self.assert_refused("NoMast", line, "slip", mast, 7, 7)
        for sign in NO_SIGNS:
            self.assert_refused("BadSign", line, "slip", 0, sign, 7)
            self.assert_refused("BadSign", line, "slip", 0, 7, sign)
        self.assert_refused("NotReady", line, "slip", 1, 7, 7)
        line.act(0)
        self.assert_refused("NotReady", line, "slip", 0, 7, 7)
        line.act(1)
        self.assert_refused("NotRaising", line, "slip", 0, 7, 7)
        line.act(2)
        line.act(0)
        self.assert_refused("NotRaising", line, "slip", 1, 7, 7)
        line.act(1)
        self.assert_refused("NotRaising", line, "slip", 2, 7, 7)

    def test_which_refusal_goes_first(self):
        line = Line(3)
        self.assert_refused("NoMast", line, "slip", 3, 0, 0)
        self.assert_refused("BadSign", line, "slip", 0, 0, 1)
        self.assert_refused("BadSign", line, "slip", 1, 1, 95)
        line.send("up", [7])
        line.doze(0)
        self.assert_refused("NotReady", line, "slip", 0, 8, 8)
        line.wake(0)
        line.act(0)
        line.act(1)
        self.assert_refused("BadSign", line, "slip", 0, 7, 0)
        line.send("up", [9])
        self.assert_refused("NotRaising", line, "slip", 0, 8, 8)
        line.doze(0)
        self.assert_refused("NotReady", line, "slip", 0, 8, 8)


class TestSleepAndFog(LineCase):
    def test_doze_and_wake(self):
        for masts in (2, 3, 12):
            line = Line(masts)
            for mast in (masts - 1, 0, masts // 2):
                if mast not in line.asleep():
                    self.assert_done(None, line, "doze", mast)
                self.assert_refused("Asleep", line, "doze", mast)
            self.assertEqual(line.asleep(), sorted({0, masts // 2, masts - 1}))
            for mast in (0, masts - 1):
                self.assert_done(None, line, "wake", mast)
                self.assert_refused("Awake", line, "wake", mast)
            self.assertEqual(line.asleep(), [masts // 2] if masts > 2 else [])

    def test_fog_and_lift(self):
        for masts in (2, 3, 12):
            line = Line(masts)
            for gap in (masts - 2, 0):
                if gap not in line.fogs():
                    self.assert_refused("Clear", line, "lift", gap)
                    self.assert_done(None, line, "fog", gap)
                self.assert_refused("Fogged", line, "fog", gap)
            self.assertEqual(line.fogs(), sorted({0, masts - 2}))
            self.assert_done(None, line, "lift", masts - 2)
            self.assert_refused("Clear", line, "lift", masts - 2)
            self.assertEqual(line.fogs(), [0] if masts > 2 else [])

    def test_no_such_mast(self):
        for masts in (2, 5, 12):
            line = Line(masts)
            line.doze(masts - 1)
            for mast in [-1, masts, masts + 1, -masts, *BEYOND]:
                self.assert_refused("NoMast", line, "doze", mast)
                self.assert_refused("NoMast", line, "wake", mast)

    def test_no_such_gap(self):
        for masts in (2, 5, 12):
            line = Line(masts)
            line.fog(masts - 2)
            for gap in [-1, masts - 1, masts, -masts, 1 - masts, *BEYOND]:
                self.assert_refused("NoMast", line, "fog", gap)
                self.assert_refused("NoMast", line, "lift", gap)

    def test_gaps_are_numbered_by_masts_on_both_ways(self):
        for way in WAYS:
            line, along = line_on(way, 4), masts_on(way, 4)
            line.send(way, [7])
            line.act(along[0])
            line.fog(0)
            self.assertEqual([line.waits(mast) for mast in range(4)], {
                "up": ["fog ahead", "fog behind", "nothing comes", "nothing comes"],
                "down": ["fog behind", "nothing comes", "ready", "not copied ahead"],
            }[way])

    def test_sleep_and_fog_stay_when_the_line_turns(self):
        line = Line(4)
        line.doze(3)
        line.fog(0)
        line.turn()
        self.assertEqual((line.asleep(), line.fogs()), ([3], [0]))
        line.send("down", [7])
        self.assertEqual(line.waits(3), "asleep")


class TestBeatAndSettle(LineCase):
    def test_beats_of_one_sign(self):
        for way in WAYS:
            line, (first, second, last) = line_on(way, 3), masts_on(way, 3)
            line.send(way, [7])
            for told in ([first], [second], sorted([first, last]), [second], [last]):
                self.assert_done(told, line, "beat")
            self.assert_no_deed(("told", []), line, "beat")
            self.assertEqual((line.arms(), line.heard(way)), ([0, 0, 0], [7]))

    def test_settle_tells_the_beats(self):
        for way in WAYS:
            for masts in range(2, 13):
                line = line_on(way, masts)
                line.send(way, [7])
                needed = line.needed()
                # Each mast raises one beat behind the one before; the last one lowers two beats behind its raising.
                self.assertEqual(needed, masts + 2)
                self.assert_done(needed, line, "settle")
                self.assertEqual((line.heard(way), line.arms(), line.needed()), ([7], [0] * masts, 0))
                self.assert_no_deed(("told", 0), line, "settle")

    def test_settle_comes_to_the_beats_one_by_one(self):
        for way in WAYS:
            line = line_on(way, 6)
            line.send(way, [7, 8, 9, 10])
            for deed in (("beat",), ("slip", masts_on(way, 6)[1], 3, 4), ("doze", 2), ("fog", 4)):
                self.assertEqual(do(line, *deed)[0], "told")
            other = line.twin()
            beats = 0
            while other.beat():
                beats += 1
            self.assertEqual(line.settle(), beats)
            told, wanted = looks(line), looks(other)
            told.pop(("deeds",)), wanted.pop(("deeds",))
            self.assertEqual(told, wanted)

    def test_they_are_no_deeds_where_nobody_is_ready(self):
        line = Line(3)
        for name, told in (("beat", []), ("settle", 0)):
            self.assert_no_deed(("told", told), line, name)
        line.send("down", [5])
        for name, told in (("beat", []), ("settle", 0)):
            self.assert_no_deed(("told", told), line, name)
        line.send("up", [5])
        line.doze(0)
        for name, told in (("beat", []), ("settle", 0)):
            self.assert_no_deed(("told", told), line, name)

    def test_a_told_list_is_a_new_one(self):
        line = Line(3)
        line.send("up", [7])
        line.beat().append(9)
        line.ready().append(9)
        self.assertEqual((line.ready(), line.beat()), ([1], [1]))
        line = Line(3)
        line.beat().append(9)
        self.assertEqual(line.beat(), [])

    def test_a_beat_comes_to_the_acts_one_by_one_in_any_order(self):
        for way in WAYS:
            for masts in (2, 3, 7):
                line = line_on(way, masts)
                line.send(way, [7, 8, 9])
                line.doze(masts // 2)
                for beat in range(20):
                    if beat == 8:
                        line.wake(masts // 2)
                    self.assert_beat_is_acts(line)
                    line.beat()

    def assert_beat_is_acts(self, line):
        together = line.twin()
        acting = together.beat()
        self.assertEqual(acting, line.ready())
        wanted = looks(together)
        wanted.pop(("deeds",))
        for order in itertools.permutations(acting):
            apart = line.twin()
            for mast in order:
                apart.act(mast)
            told = looks(apart)
            told.pop(("deeds",))
            self.assertEqual(told, wanted)

    def test_sixty_signs_on_twelve_masts(self):
        for way in WAYS:
            line, signs = line_on(way, 12), [1 + (number * 7) % 94 for number in range(60)]
            line.send(way, signs)
            needed = line.needed()
            self.assertEqual(line.settle(), needed)
            self.assertEqual((line.sent(way), line.heard(way), line.waiting(way)), (signs, signs, []))


class TestNeeded(LineCase):
    def test_never_where_settling_does_not_come_to_a_clear_line(self):
        for way in WAYS:
            for masts in (2, 4):
                for mast in range(masts):
                    line = line_on(way, masts)
                    line.doze(mast)
                    self.assertEqual(line.needed(), 0)
                    line.send(way, [7])
                    self.assertIsNone(line.needed())
                    line.settle()
                    self.assertIsNone(line.needed())
                    line.wake(mast)
                    self.assertEqual(line.needed(), line.settle())
                for gap in range(masts - 1):
                    line = line_on(way, masts)
                    line.fog(gap)
                    line.send(way, [7])
                    self.assertIsNone(line.needed())
                    line.lift(gap)
                    self.assertEqual(line.needed(), line.settle())

    def test_what_waits_on_the_other_way_does_not_count(self):
        line = Line(3)
        line.send("down", [7])
        self.assertEqual(line.needed(), 0)
        line.send("up", [7])
        self.assertEqual(line.needed(), 5)

    def test_it_changes_nothing(self):
        line = Line(4)
        line.send("up", [7, 8])
        line.beat()
        before = looks(line)
        line.needed()
        self.assertEqual(looks(line), before)


class TestTurn(LineCase):
    def test_there_and_back(self):
        line = Line(3)
        self.assert_done(None, line, "turn")
        self.assertEqual(line.way(), "down")
        self.assert_done(None, line, "turn")
        self.assertEqual(line.way(), "up")

    def test_busy_as_long_as_some_mast_shows_a_sign(self):
        for way in WAYS:
            line = line_on(way, 4)
            line.send(way, [7])
            while line.ready():
                line.beat()
                if any(line.arms()):
                    self.assert_refused("Busy", line, "turn")
            self.assert_done(None, line, "turn")

    def test_waiting_signs_books_and_numbers_of_both_ways(self):
        line = Line(3)
        line.send("up", [7, 8])
        line.settle()
        line.send("up", [9])
        line.send("down", [5, 6])
        line.turn()
        self.assertEqual((line.waiting("up"), line.waiting("down"), line.ready()), ([9], [5, 6], [2]))
        line.act(2)
        self.assertEqual(line.under_way(), [(0, 2, 2)])
        line.settle()
        self.assertEqual((line.sent("up"), line.heard("up")), ([7, 8], [7, 8]))
        self.assertEqual((line.sent("down"), line.heard("down")), ([5, 6], [5, 6]))
        self.assertEqual((line.row("up", 1, 1), line.row("down", 1, 1)), (8, 6))
        line.turn()
        line.act(0)
        self.assertEqual((line.under_way(), line.sent("up")), ([(2, 0, 0)], [7, 8, 9]))

    def test_with_signs_waiting_it_may_turn(self):
        line = Line(2)
        line.send("up", [7])
        line.send("down", [8])
        self.assert_done(None, line, "turn")
        self.assertEqual((line.waiting("up"), line.waiting("down")), ([7], [8]))


class TestUnderWay(LineCase):
    def test_a_sign_that_stands_in_a_stretch(self):
        for way in WAYS:
            line, along = line_on(way, 5), masts_on(way, 5)
            line.send(way, [7, 7, 7])
            self.assertEqual(line.under_way(), [])
            line.act(along[0])
            self.assertEqual(line.under_way(), [(0, along[0], along[0])])
            line.act(along[1])
            self.assertEqual(line.under_way(), [(0, along[0], along[1])])
            line.act(along[2])
            self.assertEqual(line.under_way(), [(0, along[0], along[2])])
            line.act(along[0])
            line.act(along[1])
            line.act(along[3])
            self.assertEqual(line.under_way(), [(0, along[2], along[3])])
            line.act(along[0])
            self.assertEqual(line.under_way(), [(1, along[0], along[0]), (0, along[2], along[3])])
            line.act(along[4])
            self.assertEqual(line.under_way(), [(1, along[0], along[0])])
            for mast in (along[2], along[3], along[1], along[0], along[2], along[1], along[0]):
                line.act(mast)
            self.assertEqual(line.under_way(), [(2, along[0], along[0]), (1, along[2], along[2])])

    def test_numbers_go_on_behind_those_that_came(self):
        for way in WAYS:
            line = line_on(way, 3)
            for number in range(4):
                line.send(way, [7])
                line.beat()
                first = masts_on(way, 3)[0]
                self.assertEqual(line.under_way(), [(number, first, first)])
                line.settle()
                self.assertEqual(line.under_way(), [])

    def test_on_two_masts(self):
        line = Line(2)
        line.send("up", [7])
        line.act(0)
        self.assertEqual(line.under_way(), [(0, 0, 0)])
        line.act(1)
        self.assertEqual(line.under_way(), [])


class TestFreed(LineCase):
    def test_by_masts_and_gaps_on_both_ways(self):
        for way, wanted in (("up", ([2, 4], [1, 3])), ("down", ([0, 1], [0, 2]))):
            line, along = line_on(way, 5), masts_on(way, 5)
            line.send(way, [7])
            # The sign stands at the third place in the end, which has to see the mast behind it.
            for place in (0, 1, 0, 2, 1):
                line.act(along[place])
            asleep, fogs = {"up": ([4, 2, 0, 1], [3, 0, 1]), "down": ([4, 0, 1, 3], [3, 0, 2])}[way]
            for mast in asleep:
                line.doze(mast)
            for gap in fogs:
                line.fog(gap)
            self.assertEqual(line.freed(), wanted)

    def test_all_where_a_sign_waits(self):
        for way, other in (WAYS, WAYS[::-1]):
            line = line_on(way, 4)
            for mast in (3, 0, 1):
                line.doze(mast)
            for gap in (2, 0):
                line.fog(gap)
            self.assertEqual(line.freed(), ([], []))
            line.send(other, [7])
            self.assertEqual(line.freed(), ([], []))
            line.send(way, [7])
            self.assertEqual(line.freed(), ([0, 1, 3], [0, 2]))

    def test_freeing_it_lets_all_come(self):
        for way in WAYS:
            line = line_on(way, 5)
            line.send(way, [7, 8])
            line.beat()
            for mast in (0, 2, 4):
                line.doze(mast)
            for gap in (0, 3):
                line.fog(gap)
            self.assertIsNone(line.needed())
            wake, lift = line.freed()
            for mast in wake:
                line.wake(mast)
            for gap in lift:
                line.lift(gap)
            self.assertEqual(line.needed(), line.settle())
            self.assertEqual(line.heard(way), [7, 8])


if __name__ == "__main__":
    unittest.main()
