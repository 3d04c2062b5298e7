"""Pages laid: the root's pieces, with the bodies of blocks, elders and drawn parts in their seats."""

from sealpress.chains import chain_of
from sealpress.errors import NoElder, Ringed, TooMany

MOST_PIECES = 600
MOST_AROUND = 40
MOST_SIGNS_LAID = 20000


class Laying:
    """A page while it is laid."""

    def __init__(self, book):
        self.source = book
        # the blocks of each sheet that was come to, by its name: they are copied each time they are told
        self.known = {}
        self.many = 0
        self.signs = 0
        # how many seats, eaches and ifs stand around: the whole page, laid as a seat, is none of them
        self.around = -1
        # of each seat around, the whole page first: its page, word, sheet and block
        self.seats = []

    def bodies(self, page, block):
        """The bodies of a block in the chain of a page, youngest first."""
        found = []
        for link in chain_of(self.source, page):
            if link not in self.known:
                self.known[link] = self.source.kept_sheet(link).blocks()
            if block in self.known[link]:
                found.append((link, self.known[link][block]))
        return found

    def count_piece(self, piece):
        """One more piece; refused with TooMany."""
        self.many += 1
        if piece[0] == "lit":
            self.signs += len(piece[1])
        is_too_deep = piece[0] not in ("lit", "hole") and self.around >= MOST_AROUND
        if self.many > MOST_PIECES or is_too_deep or self.signs > MOST_SIGNS_LAID:
            raise TooMany("more than a page may have")

    def lay_within(self, pieces, page, block, behind):
        """The laid pieces of a seat, an each or an if in a body of this block; behind are the bodies behind it."""
        self.around += 1
        own = [self.lay_piece(piece, page, block, behind) for piece in pieces]
        self.around -= 1
        return own

    def lay_piece(self, piece, page, block, behind):
        """A laid piece; refused with TooMany, as a chain is, with NoElder, Ringed."""
        self.count_piece(piece)
        word = piece[0]
        if word == "block":
            return self.lay_body("block", page, piece[1], self.bodies(page, piece[1]))
        if word == "elder":
            if not behind:
                raise NoElder(block)
            return self.lay_body("elder", page, block, behind)
        if word == "draw":
            return self.lay_drawn(piece[1])
        if word == "each":
            return ("each", piece[1], self.lay_within(piece[2], page, block, behind))
        if word == "if":
            first = self.lay_within(piece[2], page, block, behind)
            return ("if", piece[1], first, self.lay_within(piece[3], page, block, behind))
        return piece

    def lay_body(self, word, page, block, bodies):
        """The seat of the first one of some bodies."""
        sheet = bodies[0][0]
        return self.lay_seat((page, word, sheet, block), bodies[0][1], bodies[1:])

    def lay_drawn(self, name):
        """The seat of a drawn part; the whole page is laid as one, too."""
        root = chain_of(self.source, name)[-1]
        return self.lay_seat((name, "draw", name, ""), self.source.kept_sheet(root).pieces, [])

    def lay_seat(self, four, pieces, behind):
        """The seat of these four things; refused with Ringed where it stands within itself."""
        if four in self.seats:
            raise Ringed(self.seats[self.seats.index(four):])
        self.seats.append(four)
        own = self.lay_within(pieces, four[0], four[3], behind)
        self.seats.pop()
        return ("seat", four[1], four[2], four[3], own)


def laid(book, name):
    """The laid page of a name; refused with Unknown, RingOver, TooMany, NoElder, Ringed."""
    return Laying(book).lay_drawn(name)[4]
