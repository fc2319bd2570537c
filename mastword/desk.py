"""A desk: a line that is asked by texts."""

from mastword.deeds import do_deed, read_deed, read_parts
from mastword.errors import (
    Asleep, Awake, BadLine, BadPlace, BadSign, BadSigns, BadSlip, Busy, Clear, Fogged, Full, Known, Legible, Lost,
    NoBook, NoMast, NoRow, NothingLeft, NothingWaits, NotRaising, NotReady, NoWord, Taken,
)
from mastword.page import page

NONE = "none"

# What stands behind the name of each text that is no deed.
PARTS = {
    "undo": (),
    "redo": (),
    "arms": (),
    "ready": (),
    "asleep": (),
    "fogs": (),
    "way": (),
    "waits": ("number",),
    "waiting": ("way",),
    "sent": ("way",),
    "heard": ("way",),
    "message": ("way",),
    "under": (),
    "row": ("way", "number", "number"),
    "slips": ("way", "number"),
    "askings": ("way", "number"),
    "toask": ("way", "number"),
    "freed": (),
    "needed": (),
    "words": (),
    "page": (),
}


class Desk:
    """A desk with a line."""

    def __init__(self, line):
        self.line = line

    def ask(self, text):
        """The answer to any text."""
        return answer_or_refusal(self.line, text)


def answer_or_refusal(line, text):
    """The answer to a text, or the name of what refused it."""
    # The subset has no way to ask a class for its name, and a function of it holds half of the names at most.
    try:
        return answer_or_refusal_of_keepers(line, text)
    except NoRow:
        return "NoRow"
    except NoBook:
        return "NoBook"
    except Lost:
        return "Lost"
    except Legible:
        return "Legible"
    except BadPlace:
        return "BadPlace"
    except Taken:
        return "Taken"
    except Known:
        return "Known"
    except NoWord:
        return "NoWord"
    except NothingLeft:
        return "NothingLeft"
    except BadSigns as wrong:
        return f"BadSigns {wrong.at}"


def answer_or_refusal_of_keepers(line, text):
    """The answer to a text, or the name of a refusal that tells of masts, gaps or signs that wait."""
    try:
        return answer(line, text)
    except NoMast:
        return "NoMast"
    except BadSign:
        return "BadSign"
    except Full:
        return "Full"
    except NothingWaits:
        return "NothingWaits"
    except NotReady:
        return "NotReady"
    except NotRaising:
        return "NotRaising"
    except BadSlip:
        return "BadSlip"
    except Asleep:
        return "Asleep"
    except Awake:
        return "Awake"
    except Fogged:
        return "Fogged"
    except Clear:
        return "Clear"
    except Busy:
        return "Busy"


def answer(line, text):
    """The answer to a text that is not refused."""
    try:
        asked = read_text(text)
    except BadLine:
        return "what"
    if asked[0] not in PARTS:
        return told(do_deed(line, asked))
    if len(asked) == 1:
        return answer_plain(line, asked[0])
    return answer_about(line, asked)


def read_text(text):
    """A tuple of a name and what stands behind it: of a deed, or of another text that a desk knows."""
    name, *texts = text.split(" ")
    if name not in PARTS:
        return read_deed(text)
    parts = read_parts(PARTS[name], texts)
    return (name, *parts)


def answer_plain(line, name):
    """The answer to a name with nothing behind it."""
    match name:
        case "undo":
            return told(line.undo())
        case "redo":
            return told(line.redo())
        case "arms":
            return told(line.arms())
        case "ready":
            return told(line.ready())
        case "asleep":
            return told(line.asleep())
        case "fogs":
            return told(line.fogs())
        case "way":
            return line.way()
        case "under":
            return joined_rows(line.under_way())
        case "freed":
            return joined_rows(freed_rows(line))
        case "needed":
            return number_or(line.needed(), "never")
        case "words":
            return joined_rows(line.words())
        case "page":
            return page(line)


def answer_about(line, asked):
    """The answer to a name with something behind it."""
    match asked:
        case ("waits", mast):
            return line.waits(mast)
        case ("waiting", way):
            return told(line.waiting(way))
        case ("sent", way):
            return told(line.sent(way))
        case ("heard", way):
            return told(line.heard(way))
        case ("message", way):
            return told(line.message(way))
        case ("row", way, mast, number):
            return number_or(line.row(way, mast, number), "lost")
        case ("slips", way, number):
            return joined_rows(line.slips(way, number))
        case ("askings", way, number):
            return told(line.askings(way, number))
        case ("toask", way, number):
            return number_or(line.to_ask(way, number), NONE)


def told(value):
    """What a deed or a look tells, as a text."""
    if value is None:
        return "done"
    if isinstance(value, list):
        return joined(value)
    return str(value)


def joined(values):
    """Values with one blank between."""
    return " ".join([str(value) for value in values]) or NONE


def joined_rows(rows):
    """Rows of values, with a semicolon between two rows."""
    return "; ".join([joined(row) for row in rows]) or NONE


def number_or(number, otherwise):
    """A number, or another text where there is none."""
    return otherwise if number is None else str(number)


def freed_rows(line):
    """The two parts of what must be freed, each with its name ahead; one without any is left out."""
    masts, gaps = line.freed()
    parts = [["wake", *masts], ["lift", *gaps]]
    return [part for part in parts if len(part) > 1]
