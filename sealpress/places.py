"""Places: where a value can be put, and how it is written there."""

from sealpress.marks import marked
from sealpress.signs import need_text
from sealpress.strokes import stroked
from sealpress.words import worded

# the modes that are places by their own names
PLACE_MODES = ("text", "bare", "row", "quoted")


def place_of(state):
    """The place at a state; None where there is none."""
    if state[0] in PLACE_MODES:
        return state[0]
    return "said" if state[0] == "talk" and state[3] == "said" else None


def put(place, value):
    """The text of a value at a place; refused with NoSign."""
    text = need_text(value)
    if place == "text":
        return marked(text, "<")
    if place == "quoted":
        return marked(text, "\"")
    if place == "bare":
        return worded(text)
    if place == "row":
        return stroked(text, ",)")
    # the marks are read ahead of the strokes, so they are written behind them
    return marked(stroked(text, "'"), "\"")
