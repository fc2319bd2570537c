"""A second reading of points [4], [5] and [7] of DOC.md, word by word, for the tests to hold the program against."""


def can_act(shown, waiting, asleep, fogs, place):
    """Whether the keeper of a place can raise or lower, as [4] and [5] say it."""
    first, last = place == 0, place == len(shown) - 1
    seen_behind = None if first or place - 1 in fogs else shown[place - 1]
    seen_ahead = None if last or place in fogs else shown[place + 1]
    if place in asleep:
        return False
    if shown[place] == 0:
        comes = waiting > 0 if first else seen_behind is not None and seen_behind != 0
        return comes and (last or seen_ahead == 0)
    return (first or seen_behind == 0) and (last or (seen_ahead is not None and seen_ahead != 0))


def after_act(shown, waiting, place):
    """What is shown and how many signs wait when the keeper of a place has acted; a new sign is a 1."""
    shown = list(shown)
    if shown[place] != 0:
        shown[place] = 0
    elif place == 0:
        shown[place] = 1
        waiting -= 1
    else:
        shown[place] = shown[place - 1]
    return shown, waiting


def after_beat(shown, waiting, acting):
    """The same when several act at once, each by what was seen ahead of the beat."""
    after, left = list(shown), waiting
    for place in acting:
        alone, rest = after_act(shown, waiting, place)
        after[place] = alone[place]
        left -= waiting - rest
    return after, left
