"""Points [1], [16] and [17] of DOC.md: words told by signs, and signs read as words."""

import inspect
import itertools
import unittest

from mastword.errors import BadSigns, BadWord
from mastword.phrases import Phrasebook, signs_of, words_of
from mastword.signs import sign_of

TWELVE = [41] * 12


def small_book():
    book = Phrasebook()
    book.enter(3, 40, "tide")
    book.enter(40, 1, "out")
    return book


def letters(text):
    return [sign_of(letter) for letter in text]


class TestInterface(unittest.TestCase):
    def test_arguments_are_named_as_written(self):
        self.assertEqual(list(inspect.signature(signs_of).parameters), ["book", "words"])
        self.assertEqual(list(inspect.signature(words_of).parameters), ["book", "signs"])


class TestSignsOf(unittest.TestCase):
    def test_no_words(self):
        self.assertEqual(signs_of(small_book(), []), [])

    def test_a_word_with_a_place(self):
        self.assertEqual(signs_of(small_book(), ["tide"]), [3, 40])
        self.assertEqual(signs_of(small_book(), ["out"]), [40, 1])

    def test_a_word_without_a_place(self):
        self.assertEqual(signs_of(small_book(), ["az"]), [41, 66, 67])
        self.assertEqual(signs_of(Phrasebook(), ["tide"]), [60, 49, 44, 45, 67])
        self.assertEqual(signs_of(small_book(), ["a"]), [41, 67])
        self.assertEqual(signs_of(small_book(), ["m" * 12]), [53] * 12 + [67])

    def test_words_one_behind_the_other(self):
        self.assertEqual(signs_of(small_book(), ["tide", "ab", "out", "tide", "b"]),
                         [3, 40, 41, 42, 67, 40, 1, 3, 40, 42, 67])

    def test_the_book_is_taken_as_it_is(self):
        book = small_book()
        book.strike(40, 1)
        self.assertEqual(signs_of(book, ["out"]), letters("out") + [67])
        book.enter(5, 6, "out")
        self.assertEqual(signs_of(book, ["out"]), [5, 6])

    def test_bad_word(self):
        for words in ([""], ["Tide"], ["tide", "a" * 13], ["tide", "out", "a b"], ["tide\n"], ["", "tide"]):
            with self.assertRaises(BadWord):
                signs_of(small_book(), words)

    def test_the_list_and_the_book_stay(self):
        book, words = small_book(), ["tide", "ab"]
        signs_of(book, words)
        self.assertEqual(words, ["tide", "ab"])
        self.assertEqual(book.words(), small_book().words())
        refused = ["tide", "Ab"]
        with self.assertRaises(BadWord):
            signs_of(book, refused)
        self.assertEqual(refused, ["tide", "Ab"])
        self.assertEqual(book.words(), small_book().words())

    def test_the_told_list_is_a_new_one(self):
        book = small_book()
        signs_of(book, ["tide"]).append(9)
        self.assertEqual(signs_of(book, ["tide"]), [3, 40])
        self.assertEqual(book.place_of("tide"), (3, 40))


class TestWordsOf(unittest.TestCase):
    def test_no_signs(self):
        self.assertEqual(words_of(small_book(), []), [])
        self.assertEqual(words_of(small_book(), [94, 68]), [])

    def test_words_with_a_place(self):
        self.assertEqual(words_of(small_book(), [3, 40]), ["tide"])
        self.assertEqual(words_of(small_book(), [3, 40, 40, 1, 3, 40]), ["tide", "out", "tide"])

    def test_words_of_letters(self):
        self.assertEqual(words_of(small_book(), [41, 67]), ["a"])
        self.assertEqual(words_of(small_book(), [66, 41, 67, 42, 67]), ["za", "b"])
        self.assertEqual(words_of(small_book(), TWELVE + [67]), ["a" * 12])
        self.assertEqual(words_of(small_book(), TWELVE + [67] + TWELVE + [67]), ["a" * 12] * 2)

    def test_letters_of_a_word_that_has_a_place(self):
        self.assertEqual(words_of(small_book(), letters("tide") + [67, 3, 40]), ["tide", "tide"])

    def test_signs_taken_away_are_not_read(self):
        self.assertEqual(words_of(small_book(), [94, 68, 3, 67, 68, 40]), ["tide"])
        self.assertEqual(words_of(small_book(), [41, 67, 68, 42, 67]), ["ab"])
        self.assertEqual(words_of(small_book(), [41, 5, 94, 68, 68, 67]), ["a"])
        self.assertEqual(words_of(small_book(), TWELVE + [41, 68, 67]), ["a" * 12])

    def test_the_book_is_taken_as_it_is(self):
        book = small_book()
        book.strike(3, 40)
        book.enter(3, 40, "new")
        self.assertEqual(words_of(book, [3, 40]), ["new"])

    def test_there_and_back(self):
        words = ["tide", "a", "out", "z" * 12, "tides", "out", "out"]
        self.assertEqual(words_of(small_book(), signs_of(small_book(), words)), words)

    def test_signs_and_book_stay(self):
        book, signs = small_book(), [3, 5, 68, 40, 41, 67]
        self.assertEqual(words_of(book, signs), ["tide", "a"])
        self.assertEqual(signs, [3, 5, 68, 40, 41, 67])
        self.assertEqual(book.words(), small_book().words())

    def test_the_told_list_is_a_new_one(self):
        book = small_book()
        words_of(book, [3, 40]).append("new")
        self.assertEqual(words_of(book, [3, 40]), ["tide"])


class TestBadSigns(unittest.TestCase):
    def assert_wrong(self, signs, at):
        book, kept = small_book(), list(signs)
        with self.assertRaises(BadSigns) as caught:
            words_of(book, signs)
        self.assertEqual(caught.exception.at, at, signs)
        self.assertEqual(signs, kept)
        self.assertEqual(book.words(), small_book().words())

    def test_a_sign_that_cannot_begin_a_word(self):
        for sign in (67, 69, 94):
            self.assert_wrong([sign], 0)
            self.assert_wrong([3, 40, sign], 2)
            self.assert_wrong([41, 67, sign, 41], 2)
            self.assert_wrong([5, 68, sign], 2)

    def test_no_second_page_sign(self):
        for sign in (41, 66, 67, 69, 94):
            self.assert_wrong([3, sign], 1)
            self.assert_wrong([3, sign, 40], 1)
            self.assert_wrong([3, 40, 68, sign], 3)

    def test_a_place_without_a_word(self):
        self.assert_wrong([40, 3], 1)
        self.assert_wrong([3, 39], 1)
        self.assert_wrong([3, 40, 1, 40], 3)
        self.assert_wrong([3, 40, 68, 39], 3)

    def test_neither_letter_nor_end(self):
        for sign in (1, 40, 69, 94):
            self.assert_wrong([41, sign], 1)
            self.assert_wrong([41, 42, sign, 67], 2)
            self.assert_wrong([41, 67, 68, sign], 3)
            self.assert_wrong(TWELVE + [sign], 12)

    def test_a_thirteenth_letter(self):
        self.assert_wrong(TWELVE + [42], 12)
        self.assert_wrong(TWELVE + [42, 67], 12)
        self.assert_wrong([3, 40] + TWELVE + [66, 94], 14)
        self.assert_wrong(TWELVE + [67, 68, 41], 14)

    def test_the_end_within_a_word(self):
        self.assert_wrong([3], 1)
        self.assert_wrong([41], 1)
        self.assert_wrong([3, 40, 3], 3)
        self.assert_wrong([41, 67, 41, 42], 4)
        self.assert_wrong(TWELVE, 12)

    def test_the_end_counts_signs_taken_away(self):
        self.assert_wrong([3, 40, 68], 3)
        self.assert_wrong([41, 67, 68], 3)
        self.assert_wrong([94, 68, 3], 3)
        self.assert_wrong([41, 5, 6, 68, 68], 5)
        self.assert_wrong(TWELVE + [41, 68], 14)

    def test_a_strike_that_finds_nothing(self):
        self.assert_wrong([68], 0)
        self.assert_wrong([3, 40, 68, 68, 68], 4)

    def test_a_strike_that_finds_nothing_goes_ahead_of_all(self):
        self.assert_wrong([94, 68, 68], 2)
        self.assert_wrong([68, 67], 0)
        self.assert_wrong([3, 94, 68, 68, 68, 67], 4)
        self.assert_wrong([41, 1, 68, 68, 68, 3], 4)
        self.assert_wrong([40, 3, 68, 68, 68], 4)
        self.assert_wrong([67, 94, 68, 68, 67, 68, 68, 41], 6)

    def test_the_first_fault_is_told(self):
        self.assert_wrong([67, 94, 3], 0)
        self.assert_wrong([3, 67, 67], 1)
        self.assert_wrong([41, 3, 3], 1)


def told_by_words(book, signs):
    """What [17] says, step by step from the front, written another way than in the package."""
    gone = set()
    for place, sign in enumerate(signs):
        if sign == 68:
            ahead = [at for at in range(place) if at not in gone]
            if not ahead:
                return place
            gone.update((place, ahead[-1]))
    open_page, open_letters, words = None, "", []
    for place, sign in enumerate(signs):
        if place in gone:
            continue
        if open_page is not None:
            found = [word for page, line, word in book.words() if (page, line) == (open_page, sign)]
            if not found:
                return place
            words, open_page = words + found, None
        elif open_letters and sign == 67:
            words, open_letters = words + [open_letters], ""
        elif 41 <= sign <= 66 and len(open_letters) < 12:
            open_letters += chr(ord("a") + sign - 41)
        elif 1 <= sign <= 40 and not open_letters:
            open_page = sign
        else:
            return place
    return len(signs) if open_letters or open_page is not None else words


def read(book, signs):
    try:
        return words_of(book, signs)
    except BadSigns as wrong:
        return wrong.at


class TestAllShortRows(unittest.TestCase):
    def test_all_rows_to_five_signs(self):
        book = small_book()
        for count in range(6):
            for row in itertools.product([3, 40, 1, 41, 66, 67, 68, 94], repeat=count):
                signs = list(row)
                self.assertEqual(read(book, signs), told_by_words(book, signs), signs)

    def test_long_words_with_strikes(self):
        book = small_book()
        for row in itertools.product([41, 67, 68, 40], repeat=6):
            signs = [66] * 10 + list(row)
            self.assertEqual(read(book, signs), told_by_words(book, signs), signs)


if __name__ == "__main__":
    unittest.main()
