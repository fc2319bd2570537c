"""The two ways along a line, and the places of masts on them."""

from mastword.errors import BadWay, NoMast

UP = "up"
DOWN = "down"
FEWEST_MASTS = 2
MOST_MASTS = 12


def check_way(way):
    """Refuse what is no way."""
    if way not in (UP, DOWN):
        raise BadWay("a way is up or down")


def check_mast(masts, mast):
    """Refuse what is no mast of so many; of one fewer, what is no gap."""
    if not 0 <= mast < masts:
        # The number is left out: Python refuses to write very large ones.
        raise NoMast("the line has no such mast or gap")


def place_of(way, masts, mast):
    """The place of a mast on a way, counted from 0 at the mast where signs begin."""
    check_way(way)
    check_mast(masts, mast)
    return mast if way == UP else masts - 1 - mast


def mast_at(way, masts, place):
    """The mast at a place of a way."""
    # Counting from the other end leads there and back alike.
    return place_of(way, masts, place)


def along(way, row):
    """What a list has for each mast, in the order of places."""
    check_way(way)
    return list(row) if way == UP else row[::-1]
