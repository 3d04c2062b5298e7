"""Pieces: what stands in a sheet or in a laid page, lists of tuples with such lists in them."""


def copied(pieces):
    """The same pieces in lists of their own, at every depth."""
    own = []
    for piece in pieces:
        # in a piece, of whatever kind, each list is one of pieces
        own.append(tuple([copied(part) if isinstance(part, list) else part for part in piece]))
    return own


def all_in(pieces):
    """Each piece in the pieces, at whatever depth, in the order of the text, a piece ahead of those within it."""
    found = []
    for piece in pieces:
        found.append(piece)
        for part in piece:
            if isinstance(part, list):
                found.extend(all_in(part))
    return found
