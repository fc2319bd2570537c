"""How a line stands: rows of values and a phrasebook, altered only by changes that can be taken back.

A change is (where, at, taken, put): in the row that is kept there, at that place, some values are taken away and
others are put instead. Where it is made in WORDS, the place is a page and a line of the phrasebook.
"""

from mastword.arms import REST
from mastword.errors import NoBook, NoRow
from mastword.motion import Motion
from mastword.phrases import Phrasebook
from mastword.ways import DOWN, UP, along, check_mast, check_way, mast_at, place_of

WAY = "way"
ARMS = "arms"
SLEEP = "sleep"
FOG = "fog"
WORDS = "words"


def queue_of(way):
    """Where the signs are kept that wait on a way."""
    return ("queue", way)


def book_of(way, mast):
    """Where the book of a mast for a way is kept; its rows are pairs (sign, whether the row is lost)."""
    return ("book", way, mast)


def new_rows(masts):
    """The rows of a new line of so many masts."""
    rows = {WAY: [UP], ARMS: [REST] * masts, SLEEP: [False] * masts, FOG: [False] * (masts - 1)}
    for way in (UP, DOWN):
        rows[queue_of(way)] = []
        for mast in range(masts):
            rows[book_of(way, mast)] = []
    return rows


class State:
    """All that a line is at one time, but for its deeds."""

    def __init__(self, masts):
        self.rows = new_rows(masts)
        self.phrasebook = Phrasebook()

    def copied(self):
        """Another state that is like this one."""
        other = State(self.size())
        other.rows = {where: list(self.rows[where]) for where in self.rows}
        for page, line, word in self.phrasebook.words():
            other.phrasebook.enter(page, line, word)
        return other

    def make(self, changes):
        """Make changes, in their order."""
        for where, at, taken, put in changes:
            self.swap(where, at, taken, put)

    def take_back(self, changes):
        """Take back the changes that were made last."""
        for where, at, taken, put in reversed(changes):
            self.swap(where, at, put, taken)

    def swap(self, where, at, taken, put):
        """Put some values where others stand."""
        if where == WORDS:
            self.swap_word(at, taken, put)
        else:
            row = self.rows[where]
            row[at:at + len(taken)] = list(put)

    def swap_word(self, at, taken, put):
        """Strike the word of a place, enter another one there: each where there is one."""
        page, line = at
        if taken:
            self.phrasebook.strike(page, line)
        if put:
            self.phrasebook.enter(page, line, put[0])

    def size(self):
        """How many masts there are."""
        return len(self.rows[ARMS])

    def check_mast(self, mast):
        """Refuse what is no mast here."""
        check_mast(self.size(), mast)

    def check_gap(self, gap):
        """Refuse what is no gap here."""
        check_mast(self.size() - 1, gap)

    def check_book(self, mast):
        """Refuse what is no mast here, and one whose book is a sheet."""
        self.check_mast(mast)
        if mast in (0, self.size() - 1):
            raise NoBook("the books of mast 0 and of the last mast are sheets")

    def heading(self):
        """The way the line goes."""
        return self.rows[WAY][0]

    def queue_on(self, way):
        """The signs that wait on a way."""
        check_way(way)
        return list(self.rows[queue_of(way)])

    def marked(self, where):
        """The masts that sleep, or the gaps where fog lies, rising."""
        return [number for number, so in enumerate(self.rows[where]) if so]

    def place_here(self, mast):
        """The place of a mast on the way the line goes."""
        return place_of(self.heading(), self.size(), mast)

    def masts_here(self, places):
        """The masts at places of the way the line goes, rising."""
        return sorted([mast_at(self.heading(), self.size(), place) for place in places])

    def gaps_here(self, places):
        """The gaps ahead of places of the way the line goes, rising; the other way round, too."""
        # The gaps stand in a row as the masts of a line do that has one fewer.
        return sorted([mast_at(self.heading(), self.size() - 1, place) for place in places])

    def motion(self):
        """The masts by places of the way the line goes, to be moved on apart from the line."""
        way = self.heading()
        sleepers = [self.place_here(mast) for mast in self.marked(SLEEP)]
        fogged = self.gaps_here(self.marked(FOG))
        return Motion(along(way, self.rows[ARMS]), self.queue_on(way), sleepers, fogged)

    def changes_by(self, motion):
        """The changes that bring the line to where its motion has come."""
        way = self.heading()
        queue = self.queue_on(way)
        begun = queue[:len(queue) - len(motion.queue)]
        changes = [
            (ARMS, 0, tuple(self.rows[ARMS]), tuple(along(way, motion.shown))),
            (queue_of(way), 0, tuple(begun), ()),
        ]
        for mast, signs in enumerate(along(way, motion.written)):
            if signs:
                rows = tuple([(sign, False) for sign in signs])
                changes.append((book_of(way, mast), self.count_of(way, mast), (), rows))
        return changes

    def book(self, way, mast):
        """The rows of a mast's book for a way, each (sign, whether it is lost)."""
        return list(self.rows[book_of(way, mast)])

    def count_of(self, way, mast):
        """How many rows a mast's book has for a way."""
        return len(self.rows[book_of(way, mast)])

    def entry(self, way, mast, number):
        """The row of that number in a mast's book for a way."""
        if not 0 <= number < self.count_of(way, mast):
            raise NoRow("no row of that number is written there")
        return self.rows[book_of(way, mast)][number]

    def signs_written(self, way, place):
        """What the mast at a place of a way wrote for that way."""
        mast = mast_at(way, self.size(), place)
        return [sign for sign, lost in self.book(way, mast)]

    def told_of(self, way, number):
        """The rows that are written of one sign, by places, None for a lost one."""
        masts = along(way, list(range(self.size())))
        # A sign that was begun has a row at the first place, and at each one that raised it from there on.
        self.entry(way, masts[0], number)
        told = []
        for mast in masts:
            if number < self.count_of(way, mast):
                sign, lost = self.entry(way, mast, number)
                told.append(None if lost else sign)
        return told
