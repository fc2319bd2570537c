"""Deeds as texts and as tuples, and how a line does one."""

from mastword.errors import BadLine
from mastword.phrases import is_word
from mastword.ways import DOWN, UP

FIGURES = "0123456789"
MOST_FIGURES = 6

# What stands behind the name of each deed: numbers, ways and words.
PARTS = {
    "send": ("way", "number"),
    "express": ("way", "number"),
    "say": ("way", "word"),
    "recall": ("way",),
    "act": ("number",),
    "slip": ("number", "number", "number"),
    "doze": ("number",),
    "wake": ("number",),
    "fog": ("number",),
    "lift": ("number",),
    "beat": (),
    "settle": (),
    "turn": (),
    "lose": ("way", "number", "number"),
    "burn": ("number",),
    "ask": ("way", "number", "number"),
    "enter": ("number", "number", "word"),
    "strike": ("number", "number"),
}
# Deeds whose last part may stand several times.
WITH_LISTS = ("send", "express", "say")


def is_number(text):
    """True for one to six figures without noughts ahead."""
    plain = 1 <= len(text) <= MOST_FIGURES and all(figure in FIGURES for figure in text)
    return plain and (text == "0" or not text.startswith("0"))


def read_part(kind, text):
    """A part of a text that has to be of a kind."""
    if kind == "number" and is_number(text):
        return int(text)
    if kind == "way" and text in (UP, DOWN):
        return text
    if kind == "word" and is_word(text):
        return text
    raise BadLine("no such part is due there")


def read_parts(kinds, texts):
    """All parts of a text, which have to be of these kinds."""
    if len(texts) != len(kinds):
        raise BadLine("there are too many parts or too few")
    return [read_part(kind, text) for kind, text in zip(kinds, texts)]


def read_deed(text):
    """The tuple of a deed's name and what is handed in."""
    name, *texts = text.split(" ")
    if name not in PARTS:
        raise BadLine("there is no deed of that name")
    kinds = PARTS[name]
    if name in WITH_LISTS:
        kinds = kinds + kinds[-1:] * (len(texts) - len(kinds))
    parts = read_parts(kinds, texts)
    return (name, *parts)


def deed_text(deed):
    """The text of a deed's tuple."""
    return " ".join([str(part) for part in deed])


def do_deed(line, deed):
    """Let a line do a deed that is given as a tuple; tells what the deed tells."""
    match deed:
        case ("send", way, *signs):
            return line.send(way, signs)
        case ("express", way, *signs):
            return line.express(way, signs)
        case ("say", way, *words):
            return line.say(way, words)
        case ("recall", way):
            return line.recall(way)
        case ("act", mast):
            return line.act(mast)
        case ("slip", mast, seen, shown):
            return line.slip(mast, seen, shown)
        case ("doze", mast):
            return line.doze(mast)
        case ("wake", mast):
            return line.wake(mast)
        case ("fog", gap):
            return line.fog(gap)
        case ("lift", gap):
            return line.lift(gap)
        case ("beat",):
            return line.beat()
        case ("settle",):
            return line.settle()
        case ("turn",):
            return line.turn()
        case ("lose", way, mast, number):
            return line.lose(way, mast, number)
        case ("burn", mast):
            return line.burn(mast)
        case ("ask", way, mast, number):
            return line.ask(way, mast, number)
        case ("enter", page, row, word):
            return line.enter(page, row, word)
        case ("strike", page, row):
            return line.strike(page, row)
