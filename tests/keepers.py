"""A second reading of DOC.md, word by word, for the tests to hold the program against."""

import copy
import re
import unittest

from mastword import errors
from mastword.line import Line
from mastword.phrases import Phrasebook, words_of

WAYS = ("up", "down")
# 10 ** 5000 has more figures than Python is willing to write by itself.
FAR = [10 ** 6, 10 ** 30, 10 ** 5000]
BEYOND = [*FAR, *[-far for far in FAR]]
NO_WAYS = ["", "Up", "UP", "up ", " up", "up\n", "u", "updown", "up down", "Down", "downs", "left", "0", "~"]
NO_WORDS = ["", "a" * 13, "A", "Tide", " ", "tide ", "ti de", "1", "tide\n", "\n", "-", "~"]


def can_act(shown, waiting, asleep, fogs, place):
    """Whether the keeper of a place can raise or lower, as [4] and [5] say it."""
    first, last = place == 0, place == len(shown) - 1
    seen_behind = None if first or place - 1 in fogs else shown[place - 1]
    seen_ahead = None if last or place in fogs else shown[place + 1]
    if place in asleep:
        return False
    if shown[place] == 0:
        comes = waiting > 0 if first else seen_behind is not None and seen_behind != 0
        return comes and (last or seen_ahead == 0)
    return (first or seen_behind == 0) and (last or (seen_ahead is not None and seen_ahead != 0))


def after_act(shown, waiting, place):
    """What is shown and how many signs wait when the keeper of a place has acted; a new sign is a 1."""
    shown = list(shown)
    if shown[place] != 0:
        shown[place] = 0
    elif place == 0:
        shown[place] = 1
        waiting -= 1
    else:
        shown[place] = shown[place - 1]
    return shown, waiting


def after_beat(shown, waiting, acting):
    """The same when several act at once, each by what was seen ahead of the beat."""
    after, left = list(shown), waiting
    for place in acting:
        alone, rest = after_act(shown, waiting, place)
        after[place] = alone[place]
        left -= waiting - rest
    return after, left


DEEDS = (
    "send express say recall act slip doze wake fog lift beat settle turn lose burn ask enter strike"
).split()
WITH_LISTS = ("send", "express", "say")
PLAIN_LOOKS = "masts way arms asleep fogs ready under_way words freed needed deeds".split()
WAY_LOOKS = "waiting sent heard message".split()
SIGN_LOOKS = "slips askings to_ask".split()


def line_on(way, masts):
    """A new line that goes that way."""
    line = Line(masts)
    if way == "down":
        line.turn()
    return line


def masts_on(way, masts):
    """The masts in the order of the way."""
    return list(range(masts)) if way == "up" else list(range(masts - 1, -1, -1))


def outcome(call, *handed):
    """What a call tells, or the name of its refusal, with the place of one that has a place."""
    try:
        return "told", call(*handed)
    except errors.MastError as refusal:
        return "refused", type(refusal).__name__, getattr(refusal, "at", None)


def do(line, name, *handed):
    """What a line tells of a deed, or its refusal; signs and words are handed in one by one, as in a deed's tuple."""
    if name in WITH_LISTS:
        return outcome(getattr(line, name), handed[0], list(handed[1:]))
    return outcome(getattr(line, name), *handed)


def looks(line):
    """All that a line tells, with all that can be handed in and one more on either side."""
    told = {(name,): outcome(getattr(line, name)) for name in PLAIN_LOOKS}
    masts = range(-1, line.masts() + 1)
    for mast in masts:
        told["waits", mast] = outcome(line.waits, mast)
    for way in ("up", "down"):
        numbers = range(-1, len(line.sent(way)) + 1)
        for name in WAY_LOOKS:
            told[name, way] = outcome(getattr(line, name), way)
        for name in SIGN_LOOKS:
            for number in numbers:
                told[name, way, number] = outcome(getattr(line, name), way, number)
        for mast in masts:
            for number in numbers:
                told["row", way, mast, number] = outcome(line.row, way, mast, number)
    return told


class LineCase(unittest.TestCase):
    """How deeds and refusals of a line are tested: by all that the line tells ahead of them and behind them."""

    def assert_done(self, told, line, name, *handed):
        """The deed is done and tells so; it stands, can be taken back and done again; nothing else can be."""
        before, text = looks(line), " ".join(str(part) for part in (name, *handed))
        self.let_be_done_again(line)
        self.assertEqual(do(line, name, *handed), ("told", told))
        after = looks(line)
        self.assertEqual(line.deeds(), before["deeds",][1] + [text])
        self.assertEqual(outcome(line.redo)[:2], ("refused", "NothingLeft"))
        line.undo()
        self.assertEqual(looks(line), before)
        line.redo()
        self.assertEqual(looks(line), after)

    def assert_refused(self, error, line, name, *handed):
        """The deed is refused by that name; nothing changes, and what can be done again stays so."""
        self.assert_no_deed(("refused", error, None), line, name, *handed)

    def assert_no_deed(self, wanted, line, name, *handed):
        before = looks(line)
        after = self.let_be_done_again(line)
        self.assertEqual(do(line, name, *handed), wanted)
        self.assertEqual(looks(line), before)
        line.redo()
        self.assertEqual(looks(line), after)
        line.undo()

    def let_be_done_again(self, line):
        """Do a deed and take it back, so that there is one to do again; tells what the line told behind it."""
        line.enter(40, 40, "zz")
        after = looks(line)
        line.undo()
        return after


class SecondLine:
    """A second reading of [2] to [13], [15], [16], [18], [19]: by masts, not by places, with whole states kept to go back."""

    def __init__(self, masts):
        self.size = masts
        self.now = {
            "way": "up", "arms": [0] * masts, "waiting": {"up": [], "down": []}, "asleep": set(), "fogs": set(),
            "rows": {"up": [[] for mast in range(masts)], "down": [[] for mast in range(masts)]}, "words": {},
        }
        self.done, self.undone = [], []

    def __getattr__(self, name):
        if name not in DEEDS:
            raise AttributeError(name)
        return lambda *handed: self.deed(name, *handed)

    def deed(self, name, *handed):
        before = copy.deepcopy(self.now)
        told = getattr(self, "do_" + name)(*handed)
        if name not in ("beat", "settle") or told:
            parts = [name, handed[0], *handed[1]] if name in WITH_LISTS else [name, *handed]
            self.done.append((" ".join(str(part) for part in parts), before))
            self.undone = []
        return told

    def refuse(self, *causes):
        """Raise the first refusal whose cause is so; one that stands behind may not even be asked."""
        for name, so in causes:
            if so():
                raise getattr(errors, name)

    def undo(self):
        self.refuse(("NothingLeft", lambda: not self.done))
        text, before = self.done.pop()
        self.undone.append((text, self.now))
        self.now = before

    def redo(self):
        self.refuse(("NothingLeft", lambda: not self.undone))
        text, after = self.undone.pop()
        self.done.append((text, self.now))
        self.now = after

    def twin(self):
        other = SecondLine(self.size)
        other.now, other.done, other.undone = copy.deepcopy((self.now, self.done, self.undone))
        return other

    def neighbours(self, mast):
        """The mast behind and the one ahead on the way the line goes, None for none."""
        step = 1 if self.now["way"] == "up" else -1
        return [other if 0 <= other < self.size else None for other in (mast - step, mast + step)]

    def seen(self, mast, other):
        """What the keeper of a mast sees of a neighbour, None in fog."""
        return None if min(mast, other) in self.now["fogs"] else self.now["arms"][other]

    def coming(self, mast):
        behind, ahead = self.neighbours(mast)
        waiting = self.now["waiting"][self.now["way"]]
        return (waiting[0] if waiting else 0) if behind is None else self.seen(mast, behind)

    def reason(self, mast):
        behind, ahead = self.neighbours(mast)
        rests = self.now["arms"][mast] == 0
        before = None if behind is None else self.seen(mast, behind)
        beyond = None if ahead is None else self.seen(mast, ahead)
        if mast in self.now["asleep"]:
            return "asleep"
        if behind is not None and before is None:
            return "fog behind"
        if rests and self.coming(mast) == 0:
            return "nothing comes"
        if not rests and behind is not None and before != 0:
            return "still shown behind"
        if ahead is not None and beyond is None:
            return "fog ahead"
        if rests and ahead is not None and beyond != 0:
            return "not clear ahead"
        if not rests and ahead is not None and beyond == 0:
            return "not copied ahead"
        return "ready"

    def ready(self):
        return [mast for mast in range(self.size) if self.reason(mast) == "ready"]

    # Deeds.

    def no_mast(self, mast):
        return lambda: not 0 <= mast < self.size

    def no_way(self, way):
        return lambda: way != "up" and way != "down"

    def no_sign(self, signs):
        return lambda: any(sign not in range(1, 95) for sign in signs)

    def full(self, way, signs):
        return lambda: len(self.now["waiting"][way]) + len(signs) > 60

    def not_ready(self, mast):
        return lambda: self.reason(mast) != "ready"

    def do_send(self, way, signs):
        self.refuse(("BadWay", self.no_way(way)), ("BadSign", self.no_sign(signs)), ("Full", self.full(way, signs)))
        self.now["waiting"][way] = self.now["waiting"][way] + list(signs)

    def do_express(self, way, signs):
        self.refuse(("BadWay", self.no_way(way)), ("BadSign", self.no_sign(signs)), ("Full", self.full(way, signs)))
        self.now["waiting"][way] = list(signs) + self.now["waiting"][way]

    def do_say(self, way, words):
        self.refuse(("BadWay", self.no_way(way)))
        self.refuse(("BadWord", lambda: not all(re.fullmatch("[a-z]{1,12}", word) for word in words)))
        places = {word: place for place, word in self.now["words"].items()}
        signs = []
        for word in words:
            signs += places.get(word) or [ord(letter) - ord("a") + 41 for letter in word] + [67]
        self.refuse(("Full", self.full(way, signs)))
        self.now["waiting"][way] = self.now["waiting"][way] + signs

    def do_recall(self, way):
        self.refuse(("BadWay", self.no_way(way)), ("NothingWaits", lambda: not self.now["waiting"][way]))
        return self.now["waiting"][way].pop()

    def raise_arms(self, mast, written, shown):
        if self.neighbours(mast)[0] is None:
            self.now["waiting"][self.now["way"]].pop(0)
        self.now["arms"][mast] = shown
        self.now["rows"][self.now["way"]][mast].append((written, False))

    def do_act(self, mast):
        self.refuse(("NoMast", self.no_mast(mast)), ("NotReady", self.not_ready(mast)))
        if self.now["arms"][mast] == 0:
            self.raise_arms(mast, self.coming(mast), self.coming(mast))
        else:
            self.now["arms"][mast] = 0

    def do_slip(self, mast, seen, shown):
        self.refuse(
            ("NoMast", self.no_mast(mast)), ("BadSign", self.no_sign([seen, shown])), ("NotReady", self.not_ready(mast)),
            ("NotRaising", lambda: self.now["arms"][mast] != 0),
            ("BadSlip", lambda: self.neighbours(mast)[0] is None and seen != self.coming(mast)),
        )
        self.raise_arms(mast, seen, shown)

    def do_doze(self, mast):
        self.refuse(("NoMast", self.no_mast(mast)), ("Asleep", lambda: mast in self.now["asleep"]))
        self.now["asleep"].add(mast)

    def do_wake(self, mast):
        self.refuse(("NoMast", self.no_mast(mast)), ("Awake", lambda: mast not in self.now["asleep"]))
        self.now["asleep"].remove(mast)

    def do_fog(self, gap):
        self.refuse(("NoMast", lambda: gap not in range(self.size - 1)), ("Fogged", lambda: gap in self.now["fogs"]))
        self.now["fogs"].add(gap)

    def do_lift(self, gap):
        self.refuse(("NoMast", lambda: gap not in range(self.size - 1)), ("Clear", lambda: gap not in self.now["fogs"]))
        self.now["fogs"].remove(gap)

    def do_beat(self):
        acting = self.ready()
        # One by one in any order comes to the same, and so from the greatest mast down.
        for mast in acting[::-1]:
            self.do_act(mast)
        return acting

    def do_settle(self):
        beats = 0
        while self.do_beat():
            beats += 1
        return beats

    def do_turn(self):
        self.refuse(("Busy", lambda: any(self.now["arms"])))
        self.now["way"] = {"up": "down", "down": "up"}[self.now["way"]]

    def no_row(self, way, mast, number):
        return lambda: number not in range(len(self.now["rows"][way][mast]))

    def do_lose(self, way, mast, number):
        self.refuse(
            ("BadWay", self.no_way(way)), ("NoMast", self.no_mast(mast)), ("NoBook", lambda: mast in (0, self.size - 1)),
            ("NoRow", self.no_row(way, mast, number)), ("Lost", lambda: self.now["rows"][way][mast][number][1]),
        )
        self.now["rows"][way][mast][number] = (self.now["rows"][way][mast][number][0], True)

    def do_burn(self, mast):
        self.refuse(("NoMast", self.no_mast(mast)), ("NoBook", lambda: mast in (0, self.size - 1)))
        for way in ("up", "down"):
            self.now["rows"][way][mast] = [(sign, True) for sign, lost in self.now["rows"][way][mast]]

    def do_ask(self, way, mast, number):
        self.refuse(
            ("BadWay", self.no_way(way)), ("NoMast", self.no_mast(mast)), ("NoRow", self.no_row(way, mast, number)),
            ("Legible", lambda: not self.now["rows"][way][mast][number][1]),
        )
        sign = self.now["rows"][way][mast][number][0]
        self.now["rows"][way][mast][number] = (sign, False)
        return sign

    def no_place(self, page, line):
        return lambda: page not in range(1, 41) or line not in range(1, 41)

    def do_enter(self, page, line, word):
        self.refuse(
            ("BadPlace", self.no_place(page, line)), ("BadWord", lambda: not re.fullmatch("[a-z]{1,12}", word)),
            ("Taken", lambda: (page, line) in self.now["words"]), ("Known", lambda: word in self.now["words"].values()),
        )
        self.now["words"][page, line] = word

    def do_strike(self, page, line):
        self.refuse(("BadPlace", self.no_place(page, line)), ("NoWord", lambda: (page, line) not in self.now["words"]))
        del self.now["words"][page, line]

    # Looks.

    def masts(self):
        return self.size

    def way(self):
        return self.now["way"]

    def arms(self):
        return list(self.now["arms"])

    def waiting(self, way):
        self.refuse(("BadWay", self.no_way(way)))
        return list(self.now["waiting"][way])

    def asleep(self):
        return sorted(self.now["asleep"])

    def fogs(self):
        return sorted(self.now["fogs"])

    def waits(self, mast):
        self.refuse(("NoMast", self.no_mast(mast)))
        return self.reason(mast)

    def under_way(self):
        """By numbers: the masts that show the sign of each number that was begun and has not come."""
        rows = self.now["rows"][self.now["way"]]
        along = masts_on(self.now["way"], self.size)
        found = []
        # A sign that was begun later stands at lower places.
        for number in reversed(range(len(rows[along[-1]]), len(rows[along[0]]))):
            showing = [mast for mast in along if self.now["arms"][mast] and len(rows[mast]) - 1 == number]
            if showing:
                found.append((number, showing[0], showing[-1]))
        return found

    def sent(self, way):
        self.refuse(("BadWay", self.no_way(way)))
        return [sign for sign, lost in self.now["rows"][way][masts_on(way, self.size)[0]]]

    def heard(self, way):
        self.refuse(("BadWay", self.no_way(way)))
        return [sign for sign, lost in self.now["rows"][way][masts_on(way, self.size)[-1]]]

    def message(self, way):
        heard = self.heard(way)
        book = Phrasebook()
        for (page, line), word in self.now["words"].items():
            book.enter(page, line, word)
        return words_of(book, heard)

    def words(self):
        return [(page, line, self.now["words"][page, line]) for page, line in sorted(self.now["words"])]

    def row(self, way, mast, number):
        self.refuse(
            ("BadWay", self.no_way(way)), ("NoMast", self.no_mast(mast)), ("NoRow", self.no_row(way, mast, number)),
        )
        sign, lost = self.now["rows"][way][mast][number]
        return None if lost else sign

    def slips(self, way, number):
        self.refuse(("BadWay", self.no_way(way)))
        along, rows = masts_on(way, self.size), self.now["rows"][way]
        self.refuse(("NoRow", self.no_row(way, along[0], number)))
        written = [mast for mast in along if len(rows[mast]) > number]
        found = []
        for first, one in enumerate(written):
            for second in range(first + 1, len(written)):
                other = written[second]
                lost_between = all(rows[mast][number][1] for mast in written[first + 1:second])
                legible = not rows[one][number][1] and not rows[other][number][1]
                if lost_between and legible and rows[one][number][0] != rows[other][number][0]:
                    found.append((one, other, rows[one][number][0], rows[other][number][0]))
        return found

    def askings(self, way, number):
        many = 0
        for one, other, sign, unlike in self.slips(way, number):
            gaps = abs(other - one)
            while gaps > 1:
                gaps -= gaps // 2
                many += 1
        return many

    def to_ask(self, way, number):
        along = masts_on(way, self.size)
        for one, other, sign, unlike in self.slips(way, number):
            if abs(other - one) > 1:
                return along[(along.index(one) + along.index(other)) // 2]
        return None

    def freed(self):
        """Of all that sleeps and lies in fog, each that alone would keep settling from coming to a clear line."""
        return (
            [mast for mast in self.asleep() if self.came_with({mast}, set()) is None],
            [gap for gap in self.fogs() if self.came_with(set(), {gap}) is None],
        )

    def needed(self):
        return self.came_with(self.now["asleep"], self.now["fogs"])

    def came_with(self, asleep, fogs):
        """How many beats settling takes with these asleep and these fogs, None where not all comes."""
        other = SecondLine(self.size)
        other.now = copy.deepcopy(self.now)
        other.now["asleep"], other.now["fogs"] = set(asleep), set(fogs)
        beats = other.do_settle()
        return None if any(other.now["arms"]) or other.now["waiting"][other.now["way"]] else beats

    def deeds(self):
        return [text for text, before in self.done]


WEIGHTS = {
    "act": 30, "slip": 16, "beat": 12, "settle": 3, "send": 10, "express": 4, "say": 4, "recall": 3, "turn": 8,
    "doze": 2, "wake": 5, "fog": 2, "lift": 5, "lose": 12, "burn": 3, "ask": 8, "enter": 4, "strike": 2,
    "undo": 9, "redo": 7,
}
SIGNS = [1, 2, 3, 41, 42, 66, 67, 68, 94]
SPOKEN = ["a", "tide", "out", "abcdefghijkl"]


def one_of(chance, likely, others):
    """Mostly one of the likely ones, if there are any."""
    return chance.choice(list(likely)) if likely and chance.random() < 0.8 else chance.choice(list(others))


def any_row(chance, line, lost):
    """What tells a row, mostly of one that is lost, or is not."""
    rows = [
        (way, mast, number)
        for way in ("up", "down") for mast in range(1, line.masts() - 1) for number in range(len(line.sent(way)))
        if outcome(line.row, way, mast, number)[0] == "told" and (line.row(way, mast, number) is None) == lost
    ]
    others = [(way, mast, number) for way in ("up", "down", "left") for mast in range(-1, line.masts() + 1)
              for number in range(-1, 7)]
    return one_of(chance, rows, others)


def any_signs(chance, many):
    """Signs, now and then with a number among them that is none."""
    signs = [chance.choice(SIGNS) for sign in range(many)]
    return signs if chance.random() < 0.95 else [*signs[1:], chance.choice([0, 95, -1])]


def any_words(chance, many):
    """Words, now and then with a text among them that is none."""
    words = [chance.choice(SPOKEN) for word in range(many)]
    return words if chance.random() < 0.95 else [*words[1:], chance.choice(["", "Tide", "abcdefghijklm"])]


def any_slip(chance, line):
    """A mast and what is written and shown there; often by one who can raise, and what waits, for the first place."""
    raising = [mast for mast in line.ready() if line.arms()[mast] == 0]
    waiting = line.waiting(line.way())
    seen, shown = any_signs(chance, 2)
    if waiting and chance.random() < 0.5:
        seen = waiting[0]
    return one_of(chance, raising, range(-1, line.masts() + 1)), seen, shown


def any_deed(chance, line):
    """A deed's name and what is handed in, or undo or redo: much of it can be done, some is refused."""
    name = chance.choices(list(WEIGHTS), list(WEIGHTS.values()))[0]
    way = one_of(chance, ["up", "down"], ["up", "down", "down", "left", ""])
    masts = range(-1, line.masts() + 1)
    place = one_of(chance, [(1, 1), (1, 2), (2, 2), (3, 1)], [(0, 1), (1, 41), (40, 40)])
    handed = {
        "send": lambda: [way, *any_signs(chance, chance.choice([1, 2, 3, 20]))],
        "express": lambda: [way, *any_signs(chance, chance.choice([1, 2, 3]))],
        "say": lambda: [way, *any_words(chance, chance.choice([1, 2]))],
        "recall": lambda: [way],
        "act": lambda: [one_of(chance, line.ready(), masts)],
        "slip": lambda: any_slip(chance, line),
        "doze": lambda: [chance.choice(masts)],
        "wake": lambda: [one_of(chance, line.asleep(), masts)],
        "fog": lambda: [chance.choice(masts)],
        "lift": lambda: [one_of(chance, line.fogs(), masts)],
        "lose": lambda: any_row(chance, line, False),
        "burn": lambda: [chance.choice(masts)],
        "ask": lambda: any_row(chance, line, True),
        "enter": lambda: [*place, any_words(chance, 1)[0]],
        "strike": lambda: place,
    }
    return name, *handed.get(name, list)()
