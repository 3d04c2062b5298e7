"""Laid pieces looked at: whether all ways through them are read, and where each hole stands."""

from sealpress.errors import Astray, LeftOpen, NoPlace, Unlike, Unread
from sealpress.places import place_of
from sealpress.steps import begin, floored, is_end, run


class Spot:
    """A place on a way, and the reader's state there, within a seat that on its floor."""

    def __init__(self, state, turns, many):
        self.state = state
        self.turns = turns
        self.many = many

    def shown(self):
        """The place as it is told."""
        return (list(self.turns), self.many)

    def met(self, state):
        """The spot behind one more thing, which leads to this state."""
        return Spot(state, self.turns, self.many + 1)

    def turned(self, turn):
        """The spot behind one more turn."""
        return Spot(self.state, self.turns + [turn], self.many)


class Looking:
    """Pieces while they are looked at, each def telling the spot behind from the spot ahead."""

    def __init__(self, kept):
        # None, or of the drawn parts that need no look, by name and floored state: holes, turns and number of things
        self.kept = kept
        self.holes = []
        self.pairs = []

    def look_all(self, pieces, spot):
        now = spot
        for piece in pieces:
            now = self.look_piece(piece, now)
        return now

    def look_piece(self, piece, spot):
        word = piece[0]
        if word == "lit":
            return self.look_literal(piece, spot)
        if word == "hole":
            return self.look_hole(piece, spot)
        if word == "each":
            return self.look_each(piece, spot)
        if word == "if":
            return self.look_if(piece, spot)
        if piece[1] == "draw" and self.kept is not None:
            return self.look_drawn(piece, spot)
        return self.look_seat(piece, spot)

    def look_literal(self, piece, spot):
        try:
            answer = run(spot.state, piece[1])
        except Unread as refusal:
            raise Astray(spot.shown(), refusal.at) from None
        return spot.met(answer[0])

    def look_hole(self, piece, spot):
        place = place_of(spot.state)
        if place is None:
            raise NoPlace(piece[1], spot.shown())
        self.holes.append((piece[1], place))
        return spot.met(spot.state)

    def look_each(self, piece, spot):
        passed = spot.turned(0)
        end = self.look_all(piece[2], spot.turned(1))
        if end.state != passed.state:
            raise Unlike(("each", piece[1]), passed.shown(), end.shown())
        return passed

    def look_if(self, piece, spot):
        one = self.look_all(piece[2], spot.turned(0))
        other = self.look_all(piece[3], spot.turned(1))
        if one.state != other.state:
            raise Unlike(("if", piece[1]), one.shown(), other.shown())
        return one

    def look_seat(self, piece, spot):
        floor = spot.met(floored(spot.state))
        end = self.look_all(piece[4], floor)
        if end.state != floor.state:
            raise Unlike(("seat", piece[1], piece[2], piece[3]), floor.shown(), end.shown())
        return end.met(spot.state)

    def look_drawn(self, piece, spot):
        pair = (piece[2], floored(spot.state))
        if pair in self.kept:
            part = self.kept[pair]
            self.holes.extend(part[0])
            return Spot(spot.state, spot.turns + part[1], spot.many + part[2])
        self.pairs.append(pair)
        first = len(self.holes)
        behind = self.look_seat(piece, spot)
        # kept at once, so that it is also where a later piece is refused
        self.kept[pair] = (self.holes[first:], behind.turns[len(spot.turns):], behind.many - spot.many)
        return behind


def looked_at(pieces, kept):
    """The places of the holes, and the pairs looked at; parts that are kept aren't, and those looked at are kept."""
    looking = Looking(kept)
    end = looking.look_all(pieces, Spot(begin(), [], 0))
    if not is_end(end.state):
        raise LeftOpen(end.shown())
    return (looking.holes, looking.pairs)


def look(pieces):
    """A list of a tuple of each hole's name and place; refused with Astray, NoPlace, Unlike, LeftOpen."""
    return looked_at(pieces, None)[0]
