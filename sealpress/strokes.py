"""Texts with strokes: a \\ ahead of a sign that would else say more than itself."""

from sealpress.errors import NoCode


def stroked(text, shut):
    """The text with a \\ ahead of each \\ and each sign of shut."""
    return "".join(["\\" + sign if sign == "\\" or sign in shut else sign for sign in text])


def unstroked(text):
    """The text without its strokes, signs behind them as they are; NoCode at one with nothing behind."""
    signs = []
    at = 0
    while at < len(text):
        if text[at] == "\\":
            if at + 1 == len(text):
                raise NoCode(at)
            at += 1
        signs.append(text[at])
        at += 1
    return "".join(signs)
