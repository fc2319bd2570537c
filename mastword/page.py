"""The page of a line: how many masts it has, and the deeds that stand."""

from mastword.deeds import do_deed, read_deed, read_parts
from mastword.errors import BadPage, MastError
from mastword.line import Line

HEAD = "masts"


def page(line):
    """The page of a line."""
    return "\n".join([f"{HEAD} {line.masts()}", *line.deeds()])


def read_page(text):
    """A line in which the deeds of a page were done."""
    head, *rows = text.split("\n")
    line = read_head(head)
    for at, row in enumerate(rows, start=1):
        do_row(line, at, row)
    return line


def read_head(row):
    """A new line, as the first row of a page tells it."""
    name, *texts = row.split(" ")
    if name != HEAD:
        raise BadPage(0)
    try:
        parts = read_parts(("number",), texts)
        return Line(parts[0])
    except MastError:
        raise BadPage(0) from None


def do_row(line, at, row):
    """Let a line do the deed of a page's row, which has a number."""
    try:
        deed = read_deed(row)
        told = do_deed(line, deed)
    except MastError:
        raise BadPage(at) from None
    # Where nobody was ready it was no deed, and no page has such a row.
    if deed[0] in ("beat", "settle") and not told:
        raise BadPage(at)
