"""The reader's modes: what a sign does in each of them.

Each def at_.. takes the word, the open boxes and the talk of a state, and a sign; it tells the next state and
a list of events, or None where the sign can't stand.
"""

from sealpress.signs import FIGURES, LETTERS, LONGEST_NAME, sign_told
from sealpress.talks import feed
from sealpress.words import WORDSIGNS

ASIS_END = "</asis>"
MARK_FIGURES = 2


def come_to(mode, opens, events):
    """A step to a mode, with nothing gathered and no talk."""
    return ((mode, "", opens, ""), events)


def told(mode, opens, sign):
    """A step to a mode by which a sign is told; None where there is no sign to be told."""
    if sign is None:
        return None
    return come_to(mode, opens, [("sign", sign)])


def gathered(mode, word, opens, talk, most):
    """A step by which the word has grown; None where it is longer than it may be."""
    if len(word) > most:
        return None
    return ((mode, word, opens, talk), [])


def box_shut(opens, events):
    """A step by which the innermost box ends; None where no box is open."""
    if not opens:
        return None
    return come_to("text", opens[:-1], events + [("out",)])


def into_box(opens, events):
    """A step into the innermost box; None where no box is open."""
    if not opens:
        return None
    mode = "asis" if opens[-1] == "asis" else "text"
    return come_to(mode, opens, events + [("in",)])


def led_on(opens, sign, events):
    """A step behind a box's name, or behind what it is told with."""
    if sign == " ":
        return come_to("gap", opens, events)
    if sign == "/":
        return come_to("slash", opens, events)
    if sign == ">":
        return into_box(opens, events)
    return None


def fed(opens, talk, sign):
    """A step by which a sign is fed to the talk; None where there is no sign, or it can't stand."""
    answer = None if sign is None else feed(talk, sign)
    if answer is None:
        return None
    return (("talk", "", opens, answer[0]), answer[1])


def mark_ended(word, sign):
    """The sign of the mark that this sign ends, or None where it ends none."""
    return sign_told(word) if sign == ";" else None


def at_text(word, opens, talk, sign):
    if sign == "<":
        return come_to("open", opens, [])
    if sign == "&":
        return come_to("mark", opens, [])
    return told("text", opens, sign)


def at_mark(word, opens, talk, sign):
    if sign in FIGURES:
        return gathered("mark", word + sign, opens, "", MARK_FIGURES)
    return told("text", opens, mark_ended(word, sign))


def at_open(word, opens, talk, sign):
    if sign == "/":
        return come_to("shut", opens, [])
    if sign in LETTERS:
        return gathered("name", sign, opens, "", LONGEST_NAME)
    return None


def at_name(word, opens, talk, sign):
    if sign in LETTERS:
        return gathered("name", word + sign, opens, "", LONGEST_NAME)
    return led_on(opens + (word,), sign, [("box", word)])


def at_slash(word, opens, talk, sign):
    if sign == ">":
        return box_shut(opens, [("in",)])
    return None


def at_shut(word, opens, talk, sign):
    if sign in LETTERS:
        return gathered("shut", word + sign, opens, "", LONGEST_NAME)
    if sign == ">" and opens[-1:] == (word,):
        return box_shut(opens, [])
    return None


def at_gap(word, opens, talk, sign):
    if sign in LETTERS:
        return gathered("attr", sign, opens, "", LONGEST_NAME)
    return None


def at_attr(word, opens, talk, sign):
    if sign in LETTERS:
        return gathered("attr", word + sign, opens, "", LONGEST_NAME)
    if sign == ":":
        return come_to("bare", opens, [("attr", word, "bare")])
    if sign == "(":
        return come_to("row", opens, [("attr", word, "row")])
    if sign == "=":
        return (("is", word, opens, ""), [])
    if sign == "!":
        return (("bang", word, opens, ""), [])
    return None


def at_is(word, opens, talk, sign):
    if sign == "\"":
        return come_to("quoted", opens, [("attr", word, "quoted")])
    return None


def at_bang(word, opens, talk, sign):
    if sign == "\"":
        return (("talk", "", opens, "between"), [("attr", word, "talk")])
    return None


def at_bare(word, opens, talk, sign):
    if sign in WORDSIGNS:
        return told("bare", opens, sign)
    if sign == "~":
        return come_to("code", opens, [])
    return led_on(opens, sign, [])


def at_code(word, opens, talk, sign):
    if word == "":
        return (("code", sign, opens, ""), []) if sign in FIGURES else None
    return told("bare", opens, sign_told(word + sign))


def at_row(word, opens, talk, sign):
    if sign == "\\":
        return come_to("stroke", opens, [])
    if sign == ",":
        return come_to("row", opens, [("next",)])
    if sign == ")":
        return come_to("done", opens, [])
    return told("row", opens, sign)


def at_stroke(word, opens, talk, sign):
    return told("row", opens, sign)


def at_quoted(word, opens, talk, sign):
    if sign == "\"":
        return come_to("done", opens, [])
    if sign == "&":
        return come_to("qmark", opens, [])
    return told("quoted", opens, sign)


def at_qmark(word, opens, talk, sign):
    if sign in FIGURES:
        return gathered("qmark", word + sign, opens, "", MARK_FIGURES)
    return told("quoted", opens, mark_ended(word, sign))


def at_done(word, opens, talk, sign):
    return led_on(opens, sign, [])


def at_talk(word, opens, talk, sign):
    if sign == "&":
        return (("tmark", "", opens, talk), [])
    if sign == "\"":
        return come_to("done", opens, []) if talk in ("between", "word") else None
    return fed(opens, talk, sign)


def at_tmark(word, opens, talk, sign):
    if sign in FIGURES:
        return gathered("tmark", word + sign, opens, talk, MARK_FIGURES)
    return fed(opens, talk, mark_ended(word, sign))


def at_asis(word, opens, talk, sign):
    grown = word + sign
    if grown == ASIS_END:
        return box_shut(opens, [])
    if ASIS_END.startswith(grown):
        return (("asis", grown, opens, ""), [])
    events = [("sign", kept) for kept in word]
    # of all beginnings of the end only the < by itself can stand behind a break
    if sign == "<":
        return (("asis", sign, opens, ""), events)
    return come_to("asis", opens, events + [("sign", sign)])


MODES = {
    "text": at_text, "mark": at_mark, "open": at_open, "name": at_name, "slash": at_slash, "shut": at_shut,
    "gap": at_gap, "attr": at_attr, "is": at_is, "bang": at_bang, "bare": at_bare, "code": at_code,
    "row": at_row, "stroke": at_stroke, "quoted": at_quoted, "qmark": at_qmark, "done": at_done,
    "talk": at_talk, "tmark": at_tmark, "asis": at_asis,
}


def moved(state, sign):
    """The state behind a sign and the events that it tells; None where the sign can't stand."""
    act = MODES.get(state[0])
    return None if act is None else act(state[1], state[2], state[3], sign)
