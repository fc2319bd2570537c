"""Words, the phrasebook that gives them places, and words told by signs."""

from mastword.errors import BadPlace, BadSigns, BadWord, Known, NoWord, Taken
from mastword.signs import END, LAST_PAGE, LETTERS, kind_of, letter_of, sign_of, standing

LONGEST_WORD = 12
PAST_THE_END = "past the end"


def is_word(text):
    """True for 1 to 12 small letters."""
    return 1 <= len(text) <= LONGEST_WORD and all(letter in LETTERS for letter in text)


def check_word(text):
    """Refuse what is no word."""
    if not is_word(text):
        raise BadWord("a word has 1 to 12 small letters a to z")


def check_place(page, line):
    """Refuse what is no place of a phrasebook."""
    if not (1 <= page <= LAST_PAGE and 1 <= line <= LAST_PAGE):
        raise BadPlace("a page and a line are numbers from 1 to 40")


class Phrasebook:
    """Words and their places: one word at most for a place, one place at most for a word."""

    def __init__(self):
        self.word_by_place = {}
        self.place_by_word = {}

    def enter(self, page, line, word):
        """Give a word a place."""
        check_place(page, line)
        check_word(word)
        if (page, line) in self.word_by_place:
            raise Taken("the place has a word")
        if word in self.place_by_word:
            raise Known("the word has a place")
        self.word_by_place[(page, line)] = word
        self.place_by_word[word] = (page, line)

    def strike(self, page, line):
        """Take the word of a place away."""
        word = self.word_at(page, line)
        if word is None:
            raise NoWord("the place has no word")
        del self.word_by_place[(page, line)]
        del self.place_by_word[word]

    def place_of(self, word):
        """The pair (page, line) of a word, None where it has no place."""
        check_word(word)
        return self.place_by_word.get(word)

    def word_at(self, page, line):
        """The word of a place, None where it has none."""
        check_place(page, line)
        return self.word_by_place.get((page, line))

    def words(self):
        """All (page, line, word), rising."""
        return sorted([(page, line, word) for (page, line), word in self.word_by_place.items()])


def signs_of(book, words):
    """The signs that tell words by a phrasebook."""
    signs = []
    for word in words:
        place = book.place_of(word)
        if place is None:
            signs.extend([sign_of(letter) for letter in word])
            signs.append(END)
        else:
            signs.extend(list(place))
    return signs


def words_of(book, signs):
    """The words that signs tell by a phrasebook."""
    rows = rows_of(signs)
    words = []
    at = 0
    while rows[at][0] != PAST_THE_END:
        kind, sign, place = rows[at]
        if kind == "page":
            words.append(placed_word(book, sign, rows[at + 1]))
            at += 2
        elif kind == "letter":
            word = spelled_word(rows, at)
            words.append(word)
            at += len(word) + 1
        else:
            raise BadSigns(place)
    return words


def rows_of(signs):
    """Rows (kind, sign, place) of the signs that stand, and one behind them all."""
    rows = [(kind_of(sign), sign, place) for sign, place in standing(signs)]
    # The row behind them is wrong wherever a word still needs a sign, so it tells the place of that fault.
    rows.append((PAST_THE_END, 0, len(signs)))
    return rows


def placed_word(book, page, row):
    """The word of a page and of the line that the row behind it tells."""
    kind, line, place = row
    word = book.word_at(page, line) if kind == "page" else None
    if word is None:
        raise BadSigns(place)
    return word


def spelled_word(rows, at):
    """The word whose letters begin at a row."""
    word = ""
    kind, sign, place = rows[at]
    while kind == "letter" and len(word) < LONGEST_WORD:
        word += letter_of(sign)
        at += 1
        kind, sign, place = rows[at]
    if kind != "end":
        raise BadSigns(place)
    return word
