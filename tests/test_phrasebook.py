"""Points [1], [15] and the last row of [18] of DOC.md: words and the phrasebook."""

import inspect
import string
import unittest

from mastword.errors import BadPlace, BadWord, Known, NoWord, Taken
from mastword.phrases import Phrasebook, is_word

# 10 ** 5000 has more figures than Python is willing to write by itself.
NO_NUMBERS = [0, 41, -1, -40, 95, 10 ** 30, -(10 ** 30), 10 ** 5000, -(10 ** 5000)]
NO_PLACES = [(number, 1) for number in NO_NUMBERS] + [(1, number) for number in NO_NUMBERS] + [(0, 0), (41, 41)]
CORNERS = [(1, 1), (1, 40), (40, 1), (40, 40)]
NO_WORDS = [
    "", "a" * 13, "a" * 5000, "A", "Tide", "tidE", " ", " tide", "tide ", "ti de", "1", "tide1", "4tide", "\n", "tide\n",
    "\ntide", "ti\nde", "-", "ti-de", "~", "`", "{", "@", "[", "_", ".", "tide,", "'", "\"", "\\",
]


def small_book():
    book = Phrasebook()
    book.enter(3, 40, "tide")
    book.enter(3, 4, "out")
    book.enter(1, 9, "ship")
    return book


def two_letters(number):
    return chr(ord("a") + number // 26) + chr(ord("a") + number % 26)


SMALL = [(1, 9, "ship"), (3, 4, "out"), (3, 40, "tide")]


class TestInterface(unittest.TestCase):
    def test_arguments_are_named_as_written(self):
        told = {
            "enter": ["page", "line", "word"], "strike": ["page", "line"], "place_of": ["word"],
            "word_at": ["page", "line"], "words": [],
        }
        for name, arguments in told.items():
            method = vars(Phrasebook)[name]
            self.assertEqual(list(inspect.signature(method).parameters)[1:], arguments)
        self.assertEqual(list(inspect.signature(Phrasebook).parameters), [])
        self.assertEqual(list(inspect.signature(is_word).parameters), ["text"])


class TestIsWord(unittest.TestCase):
    def test_each_count_of_letters(self):
        for count in range(1, 13):
            self.assertIs(is_word("m" * count), True, count)

    def test_each_letter(self):
        for letter in string.ascii_lowercase:
            self.assertIs(is_word(letter), True, letter)
        self.assertIs(is_word("abcdefghijkl"), True)
        self.assertIs(is_word("zyxwvutsrqpo"), True)

    def test_what_is_none(self):
        for text in NO_WORDS:
            self.assertIs(is_word(text), False, text)

    def test_every_other_sign_of_a_text(self):
        others = "".join(sign for sign in string.printable if sign not in string.ascii_lowercase)
        for sign in others:
            for text in (sign, sign + "ab", "a" + sign + "b", "ab" + sign):
                self.assertIs(is_word(text), False, text)


class TestEnter(unittest.TestCase):
    def assert_refused(self, book, error, page, line, word):
        ahead = book.words()
        with self.assertRaises(error):
            book.enter(page, line, word)
        self.assertEqual(book.words(), ahead)

    def test_a_new_book_is_empty(self):
        self.assertEqual(Phrasebook().words(), [])

    def test_a_word_is_entered(self):
        book = Phrasebook()
        self.assertIsNone(book.enter(3, 40, "tide"))
        self.assertEqual(book.place_of("tide"), (3, 40))
        self.assertEqual(book.word_at(3, 40), "tide")
        self.assertIsNone(book.word_at(40, 3))
        self.assertEqual(book.words(), [(3, 40, "tide")])

    def test_edges_of_places_and_words(self):
        book = Phrasebook()
        for (page, line), word in zip(CORNERS, ["a", "z", "m" * 12, "nn"]):
            book.enter(page, line, word)
        self.assertEqual(book.words(), [(1, 1, "a"), (1, 40, "z"), (40, 1, "m" * 12), (40, 40, "nn")])

    def test_every_place_takes_a_word(self):
        book = Phrasebook()
        for page in range(1, 41):
            for line in range(1, 41):
                book.enter(page, line, two_letters(page) + two_letters(line))
        self.assertEqual(len(book.words()), 1600)

    def test_bad_place(self):
        for page, line in NO_PLACES:
            self.assert_refused(small_book(), BadPlace, page, line, "new")

    def test_bad_word(self):
        for text in NO_WORDS:
            self.assert_refused(small_book(), BadWord, 2, 2, text)

    def test_taken(self):
        self.assert_refused(small_book(), Taken, 3, 40, "new")

    def test_known(self):
        self.assert_refused(small_book(), Known, 2, 2, "tide")

    def test_bad_place_goes_ahead_of_bad_word_and_known(self):
        for page, line in NO_PLACES:
            self.assert_refused(small_book(), BadPlace, page, line, "")
            self.assert_refused(small_book(), BadPlace, page, line, "tide")

    def test_bad_word_goes_ahead_of_taken(self):
        self.assert_refused(small_book(), BadWord, 3, 40, "Tide")

    def test_taken_goes_ahead_of_known(self):
        self.assert_refused(small_book(), Taken, 3, 40, "out")
        self.assert_refused(small_book(), Taken, 3, 40, "tide")


class TestStrike(unittest.TestCase):
    def assert_refused(self, book, error, page, line):
        ahead = book.words()
        with self.assertRaises(error):
            book.strike(page, line)
        self.assertEqual(book.words(), ahead)

    def test_the_word_goes(self):
        book = small_book()
        self.assertIsNone(book.strike(3, 40))
        self.assertIsNone(book.word_at(3, 40))
        self.assertIsNone(book.place_of("tide"))
        self.assertEqual(book.words(), [(1, 9, "ship"), (3, 4, "out")])

    def test_place_and_word_are_free_again(self):
        book = small_book()
        book.strike(3, 40)
        book.enter(7, 7, "tide")
        book.enter(3, 40, "new")
        self.assertEqual(book.place_of("tide"), (7, 7))
        self.assertEqual(book.word_at(3, 40), "new")

    def test_corners(self):
        for page, line in CORNERS:
            book = Phrasebook()
            book.enter(page, line, "tide")
            book.strike(page, line)
            self.assertEqual(book.words(), [])

    def test_bad_place(self):
        for page, line in NO_PLACES:
            self.assert_refused(small_book(), BadPlace, page, line)
            self.assert_refused(Phrasebook(), BadPlace, page, line)

    def test_no_word(self):
        for page, line in CORNERS + [(40, 3), (4, 3)]:
            self.assert_refused(small_book(), NoWord, page, line)

    def test_struck_twice(self):
        book = small_book()
        book.strike(3, 4)
        self.assert_refused(book, NoWord, 3, 4)


class TestLooks(unittest.TestCase):
    def test_place_of(self):
        book = small_book()
        self.assertEqual([book.place_of(word) for word in ("ship", "out", "tide")], [(1, 9), (3, 4), (3, 40)])
        self.assertIs(type(book.place_of("ship")), tuple)
        self.assertIsNone(book.place_of("new"))
        self.assertIsNone(book.place_of("m" * 12))

    def test_place_of_refuses_what_is_no_word(self):
        for text in NO_WORDS:
            with self.assertRaises(BadWord):
                small_book().place_of(text)

    def test_word_at(self):
        book = small_book()
        self.assertEqual([book.word_at(1, 9), book.word_at(3, 4), book.word_at(3, 40)], ["ship", "out", "tide"])
        for page, line in CORNERS:
            self.assertIsNone(book.word_at(page, line))

    def test_word_at_refuses_what_is_no_place(self):
        for page, line in NO_PLACES:
            with self.assertRaises(BadPlace):
                small_book().word_at(page, line)

    def test_words_are_rising_by_page_then_line(self):
        book = Phrasebook()
        for page, line, word in [(10, 2, "a"), (2, 10, "b"), (2, 9, "z"), (10, 1, "y"), (1, 40, "x")]:
            book.enter(page, line, word)
        rising = [(1, 40, "x"), (2, 9, "z"), (2, 10, "b"), (10, 1, "y"), (10, 2, "a")]
        self.assertEqual(book.words(), rising)
        self.assertIs(type(book.words()), list)
        self.assertEqual({type(row) for row in book.words()}, {tuple})

    def test_the_told_list_is_a_new_one(self):
        book = small_book()
        told = book.words()
        told.clear()
        self.assertEqual(book.words(), SMALL)
        book.words().append((9, 9, "new"))
        self.assertEqual(book.words(), SMALL)
        self.assertIsNone(book.word_at(9, 9))

    def test_looks_change_nothing(self):
        book = small_book()
        book.place_of("new")
        book.word_at(9, 9)
        self.assertEqual(book.words(), SMALL)

    def test_two_books_know_nothing_of_one_another(self):
        one, other = small_book(), Phrasebook()
        self.assertEqual(other.words(), [])
        other.enter(3, 40, "out")
        self.assertEqual(one.words(), SMALL)
        one.strike(3, 40)
        self.assertEqual(other.words(), [(3, 40, "out")])
        self.assertEqual(other.place_of("out"), (3, 40))
        self.assertEqual(one.place_of("out"), (3, 4))


if __name__ == "__main__":
    unittest.main()
