"""Signs: their kinds, their letters, and which of them a strike takes away."""

from mastword.errors import BadSign, BadSigns

LETTERS = "abcdefghijklmnopqrstuvwxyz"
LAST_PAGE = 40
FIRST_LETTER = 41
LAST_LETTER = 66
END = 67
STRIKE = 68
LAST_SIGN = 94


def is_sign(number):
    """True for a number from 1 to 94."""
    return 1 <= number <= LAST_SIGN


def check_signs(numbers):
    """Refuse numbers of which some are no signs."""
    if not all(is_sign(number) for number in numbers):
        # The numbers are left out: Python refuses to write very large ones.
        raise BadSign("a sign is a number from 1 to 94")


def kind_of(sign):
    """The kind of a sign: page, letter, end, strike or spare."""
    check_signs([sign])
    if sign <= LAST_PAGE:
        return "page"
    if sign <= LAST_LETTER:
        return "letter"
    if sign == END:
        return "end"
    if sign == STRIKE:
        return "strike"
    return "spare"


def letter_of(sign):
    """The small letter that a sign of the kind letter stands for."""
    return LETTERS[sign - FIRST_LETTER]


def sign_of(letter):
    """The sign of a small letter."""
    return FIRST_LETTER + LETTERS.index(letter)


def standing(signs):
    """Pairs (sign, place) of the signs that no strike took away."""
    left = []
    for place, sign in enumerate(signs):
        if sign != STRIKE:
            left.append((sign, place))
        elif left:
            left.pop()
        else:
            raise BadSigns(place)
    return left
