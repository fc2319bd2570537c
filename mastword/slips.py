"""Slips told by the rows of one sign, and how their keepers are best asked."""


def stretches(values):
    """Rows (place, place, sign, sign) where two legible neighbours, lost rows left out, have unlike signs."""
    legible = [(place, sign) for place, sign in enumerate(values) if sign is not None]
    found = []
    for (first, written), (second, other) in zip(legible, legible[1:]):
        if written != other:
            found.append((first, second, written, other))
    return found


def halvings(gaps):
    """How often a number must be halved, the greater half taken, until it is one."""
    # Each such halving takes one binary figure off the number less one; counting them serves large numbers, too.
    return max(gaps - 1, 0).bit_length()


def askings(values):
    """How many askings single out a slip in each stretch, at the worst."""
    return sum([halvings(second - first) for first, second, written, other in stretches(values)])


def to_ask(values):
    """The place that is best asked next, None where there is none."""
    for first, second, written, other in stretches(values):
        if second - first > 1:
            return (first + second) // 2
    return None
