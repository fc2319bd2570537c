"""Point [20] of DOC.md: deeds written and read."""

import inspect
import re
import unittest

from mastword.deeds import deed_text, read_deed
from mastword.errors import BadLine
from tests.keepers import DEEDS, WITH_LISTS

WRITTEN = {
    "send up 3 94": ("send", "up", 3, 94),
    "express down 7": ("express", "down", 7),
    "say up tide out": ("say", "up", "tide", "out"),
    "recall up": ("recall", "up"),
    "act 3": ("act", 3),
    "slip 3 4 5": ("slip", 3, 4, 5),
    "doze 2": ("doze", 2),
    "wake 2": ("wake", 2),
    "fog 1": ("fog", 1),
    "lift 1": ("lift", 1),
    "beat": ("beat",),
    "settle": ("settle",),
    "turn": ("turn",),
    "lose up 2 0": ("lose", "up", 2, 0),
    "burn 2": ("burn", 2),
    "ask up 2 0": ("ask", "up", 2, 0),
    "enter 3 40 tide": ("enter", 3, 40, "tide"),
    "strike 3 40": ("strike", 3, 40),
}
NUMBERS = ["0", "1", "9", "10", "94", "95", "123", "1234", "12345", "99999", "100000", "123456", "999999"]
NO_NUMBERS = [
    "", "00", "01", "007", "000000", "0123456", "1000000", "1234567", "99999999999999999999", "-1", "+1", "-0", "1.0",
    "1,0", "1_0", "0x1", "1e3", "a", "1a", "a1", "one", "None", "True", "\n", "1\n", "\n1", "1\n2", "~", "(1)", "'1'",
]
NO_WAYS = ["", "Up", "UP", "uP", "Down", "DOWN", "left", "u", "updown", "up\n", "\nup", "up;", "0", "way", "~"]
NO_WORDS = ["", "A", "Tide", "tidE", "a" * 13, "1", "tide1", "ti-de", "tide\n", "\ntide", "ti\nde", "tide.", "_", "~", "{"]
NUMBER, WAY, WORD = "(0|[1-9][0-9]{0,5})", "(up|down)", "[a-z]{1,12}"
FORMS = {
    "send": f"send {WAY}( {NUMBER})+", "express": f"express {WAY}( {NUMBER})+", "say": f"say {WAY}( {WORD})+",
    "recall": f"recall {WAY}", "act": f"act {NUMBER}", "slip": f"slip {NUMBER} {NUMBER} {NUMBER}",
    "doze": f"doze {NUMBER}", "wake": f"wake {NUMBER}", "fog": f"fog {NUMBER}", "lift": f"lift {NUMBER}", "beat": "beat",
    "settle": "settle", "turn": "turn", "lose": f"lose {WAY} {NUMBER} {NUMBER}", "burn": f"burn {NUMBER}",
    "ask": f"ask {WAY} {NUMBER} {NUMBER}", "enter": f"enter {NUMBER} {NUMBER} {WORD}",
    "strike": f"strike {NUMBER} {NUMBER}",
}


class DeedCase(unittest.TestCase):
    def assert_none(self, text):
        with self.subTest(text=text), self.assertRaises(BadLine):
            read_deed(text)

    def changed_part(self, kind, others):
        """Every text of WRITTEN with one part of a kind replaced by another text."""
        for text in WRITTEN:
            parts = text.split(" ")
            for at, part in enumerate(parts):
                if at > 0 and re.fullmatch(kind, part) and (kind != WORD or part not in ("up", "down")):
                    for other in others:
                        yield " ".join([*parts[:at], other, *parts[at + 1:]])


class TestThereAndBack(DeedCase):
    def test_arguments_are_named_as_written(self):
        self.assertEqual(list(inspect.signature(read_deed).parameters), ["text"])
        self.assertEqual(list(inspect.signature(deed_text).parameters), ["deed"])

    def test_each_of_the_eighteen_kinds(self):
        self.assertEqual({deed[0] for deed in WRITTEN.values()}, set(DEEDS))
        self.assertEqual(len(WRITTEN), 18)
        for text, deed in WRITTEN.items():
            self.assertEqual(read_deed(text), deed)
            self.assertIs(type(read_deed(text)), tuple)
            self.assertEqual([type(part) for part in read_deed(text)], [type(part) for part in deed])
            self.assertEqual(deed_text(deed), text)

    def test_numbers_of_one_to_six_figures(self):
        texts = list(self.changed_part(NUMBER, NUMBERS))
        self.assertEqual(len(texts), 20 * len(NUMBERS))
        for text in texts:
            wanted = tuple(int(part) if part.isdigit() else part for part in text.split(" "))
            self.assertEqual(read_deed(text), wanted)
            self.assertEqual(deed_text(wanted), text)

    def test_both_ways(self):
        for text in self.changed_part(WAY, ["up", "down"]):
            self.assertEqual(deed_text(read_deed(text)), text)

    def test_words_of_one_to_twelve_letters(self):
        for text in self.changed_part(WORD, ["a", "z", "abcdefghijkl", "zyxwvutsrqpo", "up", "down", "say", "none"]):
            self.assertEqual(deed_text(read_deed(text)), text)

    def test_lists_of_any_length(self):
        for many in (1, 2, 60, 61, 500):
            self.assertEqual(read_deed("send up" + " 5" * many), ("send", "up", *[5] * many))
            self.assertEqual(read_deed("express down" + " 999999" * many), ("express", "down", *[999999] * many))
            self.assertEqual(read_deed("say up" + " up" * many), ("say", "up", *["up"] * many))

    def test_what_a_line_would_refuse_is_a_deed_all_the_same(self):
        for text in ("send up 0", "send up 95", "act 999999", "enter 0 41 tide", "slip 12 0 95", "fog 11", "strike 41 0"):
            self.assertEqual(deed_text(read_deed(text)), text)


class TestNoDeed(DeedCase):
    def test_numbers(self):
        for text in self.changed_part(NUMBER, NO_NUMBERS + ["up", "tide"]):
            self.assert_none(text)

    def test_ways(self):
        for text in self.changed_part(WAY, NO_WAYS + ["tide", "3"]):
            self.assert_none(text)

    def test_words(self):
        for text in self.changed_part(WORD, NO_WORDS + ["3"]):
            self.assert_none(text)

    def test_blanks(self):
        for text in WRITTEN:
            for other in (" " + text, text + " ", "  " + text, text + "  "):
                self.assert_none(other)
            for at, sign in enumerate(text):
                if sign == " ":
                    self.assert_none(text[:at] + " " + text[at:])
                    for instead in ("\n", "\t", "_", ",", "; "):
                        self.assert_none(text[:at] + instead + text[at + 1:])

            if " " in text:
                self.assert_none(text.replace(" ", "", 1))

    def test_line_feeds(self):
        for text in WRITTEN:
            for at in range(len(text) + 1):
                self.assert_none(text[:at] + "\n" + text[at:])
            self.assert_none(text + "\n" + text)

    def test_capitals(self):
        for text in WRITTEN:
            for at, sign in enumerate(text):
                if sign.isalpha():
                    self.assert_none(text[:at] + sign.upper() + text[at + 1:])

    def test_missing_parts(self):
        for text in WRITTEN:
            parts = text.split(" ")
            fewest = 3 if parts[0] in WITH_LISTS else len(parts)
            for many in range(fewest):
                self.assert_none(" ".join(parts[:many]))
            for many in range(1, len(parts)):
                self.assert_none(" ".join(parts[many:]))

    def test_surplus_parts(self):
        for text in WRITTEN:
            for more in ("", "\n", "up", "3", "tide", "A", "beat"):
                if not re.fullmatch(FORMS[text.split(" ")[0]], text + " " + more):
                    self.assert_none(text + " " + more)

    def test_other_texts(self):
        for text in (
            "", " ", "\n", "~", "undo", "redo", "masts 3", "arms", "page", "words", "what", "done", "twin", "SEND up 3",
            "sends up 3", "sen up 3", "send", "say up", "send up", "send down", "express up", "send 3", "send 3 up",
            "say tide", "beat 1", "beats", "settle 0", "turn up", "enter tide 3 40", "enter 3 tide", "3", "up", "None",
            "('beat',)", "act  3", "act\n3", "number", "way", "word",
        ):
            self.assert_none(text)

    def test_every_text_near_a_deed_against_a_second_reading(self):
        for text in WRITTEN:
            for near in self.near(text):
                deeds = [name for name in FORMS if re.fullmatch(FORMS[name], near)]
                if deeds:
                    self.assertEqual((read_deed(near)[0], deed_text(read_deed(near))), (deeds[0], near))
                else:
                    self.assert_none(near)

    def near(self, text):
        """Texts with one sign left out, put in or replaced."""
        for at in range(len(text) + 1):
            yield text[:at] + text[at + 1:]
            for sign in " 0179apuZ~\n-":
                yield text[:at] + sign + text[at:]
                yield text[:at] + sign + text[at + 1:]


if __name__ == "__main__":
    unittest.main()
