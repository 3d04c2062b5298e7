"""Pieces: what stands in a sheet or in a laid page, lists of tuples with such lists in them."""


def copied(pieces):
    """The same pieces in lists of their own, at every depth."""
    own = []
    for piece in pieces:
        # in a piece, of whatever kind, each list is one of pieces
        own.append(tuple([copied(part) if isinstance(part, list) else part for part in piece]))
    return own
