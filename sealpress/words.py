"""Bare words: word signs, and ~ and two figures in the place of any other sign."""

from sealpress.errors import NoCode
from sealpress.signs import figures_of, number_of, sign_told

WORDSIGNS = "abcdefghijklmnopqrstuvwxyz0123456789-"
CODE_LENGTH = 3


def code_of(sign):
    """The code of a sign in a worded text."""
    return "~" + figures_of(number_of(sign))


def worded(text):
    """The text with a code for each sign that is no word sign."""
    return "".join([sign if sign in WORDSIGNS else code_of(sign) for sign in text])


def coded_sign(text, at):
    """The sign that the code at this place of a text tells; NoCode where it is no code."""
    sign = sign_told(text[at + 1:at + CODE_LENGTH]) if text[at] == "~" else None
    if sign is None:
        raise NoCode(at)
    return sign


def unworded(text):
    """The text with the sign of each code in its place; NoCode at what is neither a word sign nor a code."""
    signs = []
    at = 0
    while at < len(text):
        if text[at] in WORDSIGNS:
            signs.append(text[at])
            at += 1
        else:
            signs.append(coded_sign(text, at))
            at += CODE_LENGTH
    return "".join(signs)
