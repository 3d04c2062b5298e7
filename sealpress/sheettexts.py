"""Sheets told by their texts again."""

# the literal signs that a text can't have as they are
LITERAL_BRACES = {"{": "{(}", "}": "{)}"}


def braced(words):
    """Words in braces."""
    return "{" + words + "}"


def literal_text(text):
    """The text of a literal."""
    return "".join([LITERAL_BRACES.get(sign, sign) for sign in text])


def else_text(pieces):
    """The text of what stands behind an else, with the else where there is such."""
    return braced("else") + pieces_text(pieces) if pieces else ""


def piece_text(piece):
    """The text of a piece."""
    word = piece[0]
    if word == "lit":
        return literal_text(piece[1])
    if word == "hole":
        return braced(piece[1])
    if word == "elder":
        return braced("elder")
    begin = braced(word + " " + piece[1])
    if word == "draw":
        return begin
    behind = else_text(piece[3]) if word == "if" else ""
    return begin + pieces_text(piece[2]) + behind + braced("end")


def pieces_text(pieces):
    """The text of pieces."""
    return "".join([piece_text(piece) for piece in pieces])


def sheet_text(sheet):
    """The text of a sheet."""
    over = "" if sheet.over is None else braced("over " + sheet.over)
    return over + pieces_text(sheet.pieces)
