"""The reader's machine: a state, a sign, the next state and the events."""

from sealpress.errors import Unread
from sealpress.modes import moved


def begin():
    """The state at the beginning, at which alone a text may end."""
    return ("text", "", (), "")


def step(state, sign):
    """The state behind a sign and a list of the events that it tells; None where the sign can't stand."""
    return moved(state, sign)


def run(state, text):
    """The state behind a text and a list of all its events; Unread at the first sign that can't stand."""
    now = state
    events = []
    for at, sign in enumerate(text):
        answer = step(now, sign)
        if answer is None:
            raise Unread(at)
        now = answer[0]
        events.extend(answer[1])
    return (now, events)


def is_end(state):
    """Whether a text may end at a state."""
    return state == begin()


def floored(state):
    """The state with its open boxes put aside."""
    return (state[0], state[1], (), state[3])
