"""The signs, their numbers, and what is a text or a name."""

from sealpress.errors import NoSign

SIGNS = " !\"#$&'()*+,-./0123456789:;<=>?@ABCDEFGHIJKLMNOPQRSTUVWXYZ[\\]^_`abcdefghijklmnopqrstuvwxyz{|}~"
FIGURES = "0123456789"
LETTERS = "abcdefghijklmnopqrstuvwxyz"
LONGEST_NAME = 8


def number_of(sign):
    """The number of a sign: its place in SIGNS."""
    return SIGNS.index(sign)


def sign_of(number):
    """The sign of a number, 0 to 93."""
    return SIGNS[number]


def figures_of(number):
    """The two figures of a number, 0 to 93."""
    return str(number).zfill(2)


def sign_told(figures):
    """The sign whose number a text tells, where it is two figures of a number to 93; else None."""
    # int alone would take a blank, + or - beside a figure, too
    if len(figures) != 2 or figures[0] not in FIGURES or figures[1] not in FIGURES:
        return None
    number = int(figures)
    return sign_of(number) if number < len(SIGNS) else None


def is_text(thing):
    """Whether a thing, whatever it is, is a text of SIGNS alone."""
    return isinstance(thing, str) and all([sign in SIGNS for sign in thing])


def is_name(thing):
    """Whether a thing, whatever it is, is a name."""
    if not isinstance(thing, str) or not 1 <= len(thing) <= LONGEST_NAME:
        return False
    return all([sign in LETTERS for sign in thing])


def need_text(thing):
    """The thing itself where it is a text; else refused with NoSign."""
    if not isinstance(thing, str):
        raise NoSign(0)
    for at, sign in enumerate(thing):
        if sign not in SIGNS:
            raise NoSign(at)
    return thing
