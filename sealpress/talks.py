"""A talk: words and said texts, one sign at a time."""

from sealpress.words import WORDSIGNS


def fed_between(sign):
    """A sign behind a blank, a said text or the beginning."""
    if sign == " ":
        return ("between", [])
    if sign == "'":
        return ("said", [("said",)])
    if sign in WORDSIGNS:
        return ("word", [("word",), ("sign", sign)])
    return None


def fed_word(sign):
    """A sign within a word."""
    if sign in WORDSIGNS:
        return ("word", [("sign", sign)])
    # a word sign goes on with the word; all others are as they are between two words
    return fed_between(sign)


def fed_said(sign):
    """A sign within a said text."""
    if sign == "'":
        return ("between", [])
    if sign == "\\":
        return ("stroke", [])
    return ("said", [("sign", sign)])


def feed(talk, sign):
    """The talk behind a sign and the events that it tells; None where the sign can't stand."""
    if talk == "between":
        return fed_between(sign)
    if talk == "word":
        return fed_word(sign)
    if talk == "said":
        return fed_said(sign)
    if talk == "stroke":
        return ("said", [("sign", sign)])
    return None
