"""The refusals: each stands straight under MastError, none under another."""


class MastError(ValueError):
    """Any refusal."""


class BadCount(MastError):
    """A count that is out of its bounds."""


class NoMast(MastError):
    """No such mast, gap or place."""


class BadWay(MastError):
    """A way that is neither up nor down."""


class BadSign(MastError):
    """A number that is no sign."""


class Full(MastError):
    """More signs would wait than may."""


class NothingWaits(MastError):
    """No sign waits that could be recalled."""


class NotReady(MastError):
    """The keeper can neither raise nor lower now."""


class NotRaising(MastError):
    """The keeper would lower, not raise."""


class BadSlip(MastError):
    """At the first place the coming sign is taken for what it is."""


class Asleep(MastError):
    """The keeper sleeps already."""


class Awake(MastError):
    """The keeper is awake already."""


class Fogged(MastError):
    """Fog lies in the gap already."""


class Clear(MastError):
    """No fog lies in the gap."""


class Busy(MastError):
    """Some mast shows a sign."""


class NoRow(MastError):
    """No row of that number is written."""


class NoBook(MastError):
    """A sheet, not a book that may be lost."""


class Lost(MastError):
    """The row is lost already."""


class Legible(MastError):
    """The row is not lost."""


class NothingLeft(MastError):
    """Nothing is left to take back or to do again."""


class BadPlace(MastError):
    """A page or a line that is not from 1 to 40."""


class BadWord(MastError):
    """A text that is no word."""


class Taken(MastError):
    """The place has a word already."""


class Known(MastError):
    """The word has a place already."""


class NoWord(MastError):
    """The place has no word."""


class BadLine(MastError):
    """A text that is no deed."""


class BadSigns(MastError):
    """Signs that cannot be read: at is the place of the first one that is wrong."""

    def __init__(self, at):
        self.at = at


class BadPage(MastError):
    """A page that cannot be read: at is the number of the first row that is wrong."""

    def __init__(self, at):
        self.at = at
