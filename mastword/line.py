"""A line of masts: its deeds, what can be taken back and done again, and its looks."""

from mastword.arms import REST, runs
from mastword.deeds import deed_text
from mastword.errors import (
    Asleep, Awake, BadCount, BadSlip, Busy, Clear, Fogged, Full, Legible, Lost, NothingLeft, NothingWaits, NotRaising,
    NotReady,
)
from mastword.phrases import signs_of, words_of
from mastword.signs import check_signs
from mastword.slips import askings, stretches, to_ask
from mastword.state import ARMS, FOG, SLEEP, WAY, WORDS, State, book_of, queue_of
from mastword.ways import DOWN, FEWEST_MASTS, MOST_MASTS, UP, along, check_way, mast_at

MOST_WAITING = 60


class Line:
    """A line of masts, the signs along it, its books and its phrasebook."""

    def __init__(self, masts):
        if not FEWEST_MASTS <= masts <= MOST_MASTS:
            # The number is left out: Python refuses to write very large ones.
            raise BadCount("a line has 2 to 12 masts")
        self.state = State(masts)
        # Pairs (deed, changes) that can be taken back, and that can be done again, the next one last.
        self.past = []
        self.future = []

    def do(self, deed, changes):
        """Do a deed by its changes, and let go what could be done again."""
        self.state.make(changes)
        self.past.append((deed, tuple(changes)))
        self.future = []

    def undo(self):
        """Take back the last standing deed."""
        if not self.past:
            raise NothingLeft("no deed stands")
        deed, changes = self.past.pop()
        self.state.take_back(changes)
        self.future.append((deed, changes))

    def redo(self):
        """Do again what was taken back last."""
        if not self.future:
            raise NothingLeft("no deed can be done again")
        deed, changes = self.future.pop()
        self.state.make(changes)
        self.past.append((deed, changes))

    def twin(self):
        """Another line that stands as this one does, with the same to take back and to do again."""
        other = Line(self.masts())
        other.state = self.state.copied()
        other.past = list(self.past)
        other.future = list(self.future)
        return other

    def send(self, way, signs):
        """Let signs wait on a way, behind those that wait."""
        behind = len(self.waiting(way))
        check_signs(signs)
        self.let_wait(("send", way, *signs), behind, signs)

    def express(self, way, signs):
        """Let signs wait on a way, ahead of those that wait."""
        check_way(way)
        check_signs(signs)
        self.let_wait(("express", way, *signs), 0, signs)

    def say(self, way, words):
        """Send words as signs, by the phrasebook as it is."""
        behind = len(self.waiting(way))
        self.let_wait(("say", way, *words), behind, signs_of(self.state.phrasebook, words))

    def let_wait(self, deed, at, signs):
        """Put signs among those that wait on the deed's way, at a place in their row."""
        way = deed[1]
        if len(self.waiting(way)) + len(signs) > MOST_WAITING:
            raise Full("at most 60 signs wait on a way")
        # Without a sign it would be a deed that has no text.
        if signs:
            self.do(deed, [(queue_of(way), at, (), tuple(signs))])

    def recall(self, way):
        """Take away the sign that waits last on a way; tells it."""
        queue = self.waiting(way)
        if not queue:
            raise NothingWaits("no sign waits on that way")
        sign = queue.pop()
        self.do(("recall", way), [(queue_of(way), len(queue), (sign,), ())])
        return sign

    def act(self, mast):
        """Let a keeper act."""
        motion = self.state.motion()
        motion.move(self.ready_place(motion, mast))
        self.do(("act", mast), self.state.changes_by(motion))

    def slip(self, mast, seen, shown):
        """Let a keeper raise, who writes one sign and shows another one."""
        self.state.check_mast(mast)
        check_signs([seen, shown])
        motion = self.state.motion()
        place = self.ready_place(motion, mast)
        if motion.shown[place] != REST:
            raise NotRaising("the keeper would lower")
        if place == 0 and seen != motion.coming(place):
            raise BadSlip("at the first place the coming sign is taken for what it is")
        motion.raise_arms(place, seen, shown)
        self.do(("slip", mast, seen, shown), self.state.changes_by(motion))

    def ready_place(self, motion, mast):
        """The place of a mast whose keeper is ready."""
        place = self.state.place_here(mast)
        if place not in motion.ready_places():
            raise NotReady("the keeper can't act now")
        return place

    def doze(self, mast):
        """Let a keeper fall asleep."""
        self.state.check_mast(mast)
        if mast in self.asleep():
            raise Asleep("the keeper is asleep")
        self.do(("doze", mast), [(SLEEP, mast, (False,), (True,))])

    def wake(self, mast):
        """Wake a keeper."""
        self.state.check_mast(mast)
        if mast not in self.asleep():
            raise Awake("the keeper is awake")
        self.do(("wake", mast), [(SLEEP, mast, (True,), (False,))])

    def fog(self, gap):
        """Let fog lie in a gap."""
        self.state.check_gap(gap)
        if gap in self.fogs():
            raise Fogged("fog lies in the gap")
        self.do(("fog", gap), [(FOG, gap, (False,), (True,))])

    def lift(self, gap):
        """Let the fog of a gap lift."""
        self.state.check_gap(gap)
        if gap not in self.fogs():
            raise Clear("no fog lies in the gap")
        self.do(("lift", gap), [(FOG, gap, (True,), (False,))])

    def beat(self):
        """Let all act who are ready; tells the masts, rising. No deed where there are none."""
        motion = self.state.motion()
        masts = self.state.masts_here(motion.move_all())
        if masts:
            self.do(("beat",), self.state.changes_by(motion))
        return masts

    def settle(self):
        """Go on by beats until nobody is ready; tells how many there were. No deed where there are none."""
        motion = self.state.motion()
        beats = motion.move_on()
        if beats:
            self.do(("settle",), self.state.changes_by(motion))
        return beats

    def turn(self):
        """Let the line go the other way."""
        if any(sign != REST for sign in self.arms()):
            raise Busy("some mast shows a sign")
        way = self.way()
        self.do(("turn",), [(WAY, 0, (way,), (DOWN if way == UP else UP,))])

    def lose(self, way, mast, number):
        """Let a row of a book be lost."""
        check_way(way)
        self.state.check_book(mast)
        sign, lost = self.state.entry(way, mast, number)
        if lost:
            raise Lost("the row is lost")
        self.do(("lose", way, mast, number), [(book_of(way, mast), number, ((sign, False),), ((sign, True),))])

    def burn(self, mast):
        """Let all rows be lost that stand in a book now."""
        self.state.check_book(mast)
        changes = []
        for way in (UP, DOWN):
            rows = self.state.book(way, mast)
            changes.append((book_of(way, mast), 0, tuple(rows), tuple([(sign, True) for sign, lost in rows])))
        self.do(("burn", mast), changes)

    def ask(self, way, mast, number):
        """Let a lost row stand again by asking its keeper; tells the sign."""
        check_way(way)
        self.state.check_mast(mast)
        sign, lost = self.state.entry(way, mast, number)
        if not lost:
            raise Legible("the row is not lost")
        self.do(("ask", way, mast, number), [(book_of(way, mast), number, ((sign, True),), ((sign, False),))])
        return sign

    def enter(self, page, line, word):
        """Enter a word into the phrasebook."""
        # The phrasebook itself refuses what is wrong, and then it is no deed; likewise when a word is struck.
        self.do(("enter", page, line, word), [(WORDS, (page, line), (), (word,))])

    def strike(self, page, line):
        """Strike a word from the phrasebook."""
        word = self.state.phrasebook.word_at(page, line)
        self.do(("strike", page, line), [(WORDS, (page, line), (word,), ())])

    def masts(self):
        """How many masts there are."""
        return self.state.size()

    def way(self):
        """The way the line goes."""
        return self.state.heading()

    def arms(self):
        """What each mast shows."""
        return list(self.state.rows[ARMS])

    def waiting(self, way):
        """The signs that wait on a way."""
        return self.state.queue_on(way)

    def asleep(self):
        """The masts whose keepers sleep, rising."""
        return self.state.marked(SLEEP)

    def fogs(self):
        """The gaps where fog lies, rising."""
        return self.state.marked(FOG)

    def ready(self):
        """The masts whose keepers can act, rising."""
        return self.state.masts_here(self.state.motion().ready_places())

    def waits(self, mast):
        """Why a keeper does nothing, else ready."""
        return self.state.motion().why(self.state.place_here(mast))

    def under_way(self):
        """Rows (number, rear mast, front mast) of the signs under way, in the order of places."""
        way = self.way()
        found = []
        for rear, front in runs(along(way, self.arms())):
            # What the last place shows has come.
            if front < self.masts() - 1:
                mast = mast_at(way, self.masts(), rear)
                found.append((self.state.count_of(way, mast) - 1, mast, mast_at(way, self.masts(), front)))
        return found

    def sent(self, way):
        """What the first place of a way wrote."""
        return self.state.signs_written(way, 0)

    def heard(self, way):
        """What the last place of a way wrote."""
        return self.state.signs_written(way, self.masts() - 1)

    def message(self, way):
        """The words of what was heard, by the phrasebook as it is now."""
        return words_of(self.state.phrasebook, self.heard(way))

    def words(self):
        """All (page, line, word) of the phrasebook, rising."""
        return self.state.phrasebook.words()

    def row(self, way, mast, number):
        """The sign of a row of a book, None for a lost one."""
        check_way(way)
        self.state.check_mast(mast)
        sign, lost = self.state.entry(way, mast, number)
        return None if lost else sign

    def slips(self, way, number):
        """Rows (mast, mast, sign, sign) of the stretches in which a sign was changed, in the order of the way."""
        found = []
        for first, second, written, other in stretches(self.state.told_of(way, number)):
            masts = self.masts()
            found.append((mast_at(way, masts, first), mast_at(way, masts, second), written, other))
        return found

    def askings(self, way, number):
        """How many askings single out the slips of a sign at the worst."""
        return askings(self.state.told_of(way, number))

    def to_ask(self, way, number):
        """The mast that is best asked next of a sign, None where there is none."""
        place = to_ask(self.state.told_of(way, number))
        return None if place is None else mast_at(way, self.masts(), place)

    def freed(self):
        """The masts that must wake and the gaps where fog must lift until all has come, two rising lists."""
        wake, lift = self.state.motion().freed_places()
        return self.state.masts_here(wake), self.state.gaps_here(lift)

    def needed(self):
        """How many beats settling takes until all has come; None where it doesn't come to that."""
        motion = self.state.motion()
        beats = motion.move_on()
        return beats if motion.all_came() else None

    def deeds(self):
        """The texts of the deeds that stand."""
        return [deed_text(deed) for deed, changes in self.past]
