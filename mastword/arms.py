"""Arms by places: who is ready and why not, the stretches of signs, and what must be freed."""

REST = 0
READY = "ready"


def reason(shown, waits, asleep, fogs, place):
    """Why the keeper of a place does nothing: the first text that is so, else ready."""
    if place in asleep:
        return "asleep"
    return hindrance_behind(shown, waits, fogs, place) or hindrance_ahead(shown, fogs, place) or READY


def hindrance_behind(shown, waits, fogs, place):
    """What lies behind a place and keeps its keeper from acting, None for nothing."""
    rests = shown[place] == REST
    if place == 0:
        return "nothing comes" if rests and not waits else None
    if place - 1 in fogs:
        return "fog behind"
    # To raise, a sign must be seen behind; to lower, arms at rest: so the two masts must be unlike.
    if rests == (shown[place - 1] == REST):
        return "nothing comes" if rests else "still shown behind"
    return None


def hindrance_ahead(shown, fogs, place):
    """What lies ahead of a place and keeps its keeper from acting, None for nothing."""
    if place == len(shown) - 1:
        return None
    if place in fogs:
        return "fog ahead"
    rests = shown[place] == REST
    # To raise, arms at rest must be seen ahead; to lower, a sign: so the two masts must be alike.
    if rests != (shown[place + 1] == REST):
        return "not clear ahead" if rests else "not copied ahead"
    return None


def ready(shown, waits, asleep, fogs):
    """The places whose keepers can raise or lower, rising."""
    return [place for place in range(len(shown)) if reason(shown, waits, asleep, fogs, place) == READY]


def runs(shown):
    """Pairs (first, last) of the stretches of neighbours that show signs, rising."""
    # With a mast at rest put at either end, each stretch has rest on both sides; mast p then stands at p + 1.
    padded = [REST, *shown, REST]
    signing = [place for place, sign in enumerate(shown) if sign != REST]
    firsts = [place for place in signing if padded[place] == REST]
    lasts = [place for place in signing if padded[place + 2] == REST]
    return list(zip(firsts, lasts))


def freed(shown, waits, asleep, fogs):
    """The places that must wake and the fogs that must lift until all has come, two rising lists."""
    rear = rearmost(shown, waits)
    places = len(shown)
    wake = [place for place in range(rear, places) if place in asleep]
    # The rearmost one that acts must see the mast behind it, too, where there is one.
    lift = [place for place in range(max(rear - 1, 0), places - 1) if place in fogs]
    return wake, lift


def rearmost(shown, waits):
    """The lowest place that must still act; the count of places where none must."""
    if waits:
        return 0
    signing = [place for place, sign in enumerate(shown) if sign != REST]
    return min(signing, default=len(shown))
