"""Texts with marks: & and two figures and ; in the place of a sign."""

from sealpress.errors import NoCode
from sealpress.signs import figures_of, number_of, sign_told

MARK_LENGTH = 4


def mark_of(sign):
    """The mark of a sign."""
    return "&" + figures_of(number_of(sign)) + ";"


def marked(text, shut):
    """The text with a mark for each & and each sign of shut."""
    return "".join([mark_of(sign) if sign == "&" or sign in shut else sign for sign in text])


def marked_sign(text, at):
    """The sign that the mark at this place of a text tells; NoCode where it is no mark."""
    sign = sign_told(text[at + 1:at + 3])
    if sign is None or text[at + 3:at + MARK_LENGTH] != ";":
        raise NoCode(at)
    return sign


def unmarked(text):
    """The text with the sign of each mark in its place; NoCode at the first & without a mark."""
    signs = []
    at = 0
    while at < len(text):
        if text[at] == "&":
            signs.append(marked_sign(text, at))
            at += MARK_LENGTH
        else:
            signs.append(text[at])
            at += 1
    return "".join(signs)
