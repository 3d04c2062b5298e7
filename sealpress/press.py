"""Pieces pressed with data: the text, the ledger of its values, and the page that it must be read to."""

from sealpress.errors import TooMany
from sealpress.looker import look
from sealpress.pages import page_of
from sealpress.places import put
from sealpress.steps import begin, run
from sealpress.values import rows_of, text_of, truth_of

MOST_MET = 3000


class Way:
    """The way that data tell: its literals as they are, and its holes with their values behind."""

    def __init__(self):
        self.stops = []
        self.many = 0

    def meet(self):
        """One more thing is met; refused with TooMany."""
        self.many += 1
        if self.many > MOST_MET:
            raise TooMany("more than three thousand things on a way")

    def go_through(self, pieces, scopes):
        """Goes through pieces; refused at the first thing met with TooMany, NoValue, NoKind, NoSign."""
        for piece in pieces:
            self.meet()
            word = piece[0]
            if word == "lit":
                self.stops.append(piece)
            elif word == "hole":
                self.stops.append(piece + (text_of(scopes, piece[1]),))
            elif word == "if":
                self.go_through(piece[2] if truth_of(scopes, piece[1]) else piece[3], scopes)
            elif word == "each":
                self.go_by_rows(piece, scopes)
            else:
                self.go_through(piece[4], scopes)

    def go_by_rows(self, piece, scopes):
        """Goes through the pieces of a loop, once for each row."""
        for row in rows_of(scopes, piece[1]):
            self.meet()
            self.go_through(piece[2], scopes + [row])


def stops_of(pieces, data):
    """What stands on the way of data: literals, and holes with their values as the last thing."""
    way = Way()
    way.go_through(pieces, [data])
    return way.stops


def placed(pieces, left):
    """The same pieces, each hole with its place; left are the holes that looking told, the next one last."""
    own = []
    for piece in pieces:
        if piece[0] == "hole":
            own.append(("hole", piece[1], left.pop()[1]))
        else:
            own.append(tuple([placed(part, left) if isinstance(part, list) else part for part in piece]))
    return own


def pressed(pieces, data):
    """The text, and a list of each value's start, stop, name and place; refused as looking is, then as the way is."""
    holes = look(pieces)
    texts = []
    ledger = []
    start = 0
    for stop in stops_of(placed(pieces, holes[::-1]), data):
        text = stop[1]
        if stop[0] == "hole":
            text = put(stop[2], stop[3])
            ledger.append((start, start + len(text), stop[1], stop[2]))
        texts.append(text)
        start += len(text)
    return ("".join(texts), ledger)


def events_along(pieces, data):
    """The events of the way's literals, with the signs of the values at the holes; refused as the way is."""
    state = begin()
    events = []
    for stop in stops_of(pieces, data):
        if stop[0] == "lit":
            answer = run(state, stop[1])
            state = answer[0]
            events.extend(answer[1])
        else:
            events.extend([("sign", sign) for sign in stop[2]])
    return events


def filled(pieces, data):
    """The page of the events along the way."""
    return page_of(events_along(pieces, data))
