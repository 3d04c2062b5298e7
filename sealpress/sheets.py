"""Sheets: what a text of literal signs and words in braces tells."""

from sealpress.errors import NoSheet, TooMany, Twice
from sealpress.pieces import all_in, copied
from sealpress.signs import is_name, need_text

MOST_SIGNS = 2000
MOST_OPENED = 12
# no names of holes, loops and choices
BRACE_WORDS = ("each", "if", "else", "end", "block", "elder", "draw", "over")
# what stands in braces by itself
LONE_TOKENS = {"(": ("lit", "{"), ")": ("lit", "}"), "else": ("else",), "end": ("end",), "elder": ("elder",)}
# what is opened, up to its end
OPENERS = ("each", "if", "block")


class Sheet:
    """A sheet: over, the name of the sheet over which it lies or None, and its pieces."""

    def __init__(self, over, pieces):
        self.over = over
        self.pieces = copied(pieces)

    def blocks(self):
        """A dict from each block's name to its pieces, in the order in which they are opened."""
        return dict([(piece[1], copied(piece[2])) for piece in all_in(self.pieces) if piece[0] == "block"])


class Opened:
    """A loop, choice or block that isn't ended yet; or the sheet itself, called by no word."""

    def __init__(self, word, name):
        self.word = word
        self.name = name
        self.branches = [[]]

    def add_piece(self, piece):
        """One more piece; a literal is joined to one right ahead of it."""
        pieces = self.branches[-1]
        if piece[0] == "lit" and pieces and pieces[-1][0] == "lit":
            pieces[-1] = ("lit", pieces[-1][1] + piece[1])
        else:
            pieces.append(piece)

    def takes_else(self):
        """Whether an else may stand here."""
        return self.word == "if" and len(self.branches) == 1

    def whole(self):
        """The piece that it is when it is ended."""
        if self.word != "if":
            return (self.word, self.name, self.branches[0])
        return ("if", self.name, self.branches[0], [] if self.takes_else() else self.branches[1])


class Draft:
    """A sheet while its text is gone through."""

    def __init__(self):
        self.over = None
        self.opened = [Opened("", "")]
        # the names of the blocks so far
        self.named = {}

    def is_outside(self):
        """Whether nothing is open."""
        return len(self.opened) == 1

    def can_stand(self, token, at):
        """Whether a token can stand at this place of the text."""
        word = token[0]
        if word == "over":
            return at == 0
        if self.over is not None and self.is_outside() and word != "block":
            return False
        if word == "else":
            return self.opened[-1].takes_else()
        if word == "end":
            return not self.is_outside()
        if word == "elder":
            # where something is open in a sheet over another one, a block is: nothing else can stand outside
            return self.over is not None
        return True

    def begin_piece(self, word, name):
        """A loop, choice or block is opened; refused with Twice, then TooMany."""
        if word == "block" and name in self.named:
            raise Twice(name)
        if len(self.opened) > MOST_OPENED:
            raise TooMany("more than twelve in one another")
        if word == "block":
            self.named[name] = True
        self.opened.append(Opened(word, name))

    def take(self, token, at):
        """A token of the text, None being what is none; refused with NoSheet at this place, Twice, TooMany."""
        if token is None or not self.can_stand(token, at):
            raise NoSheet(at)
        word = token[0]
        if word == "over":
            self.over = token[1]
        elif word in OPENERS:
            self.begin_piece(word, token[1])
        elif word == "else":
            self.opened[-1].branches.append([])
        elif word == "end":
            last = self.opened.pop()
            self.opened[-1].add_piece(last.whole())
        else:
            self.opened[-1].add_piece(token)

    def ended(self, at):
        """The sheet that was told, the text being at its end; NoSheet there where something is open."""
        if not self.is_outside():
            raise NoSheet(at)
        return Sheet(self.over, self.opened[0].branches[0])


def is_own_name(word):
    """Whether a text can be the name of a hole, a loop or a choice."""
    return is_name(word) and word not in BRACE_WORDS


def token_of(inside):
    """What a text in braces tells, a tuple like a piece without inner lists; None where it tells nothing."""
    words = inside.split(" ")
    if len(words) == 1:
        return LONE_TOKENS.get(inside, ("hole", inside) if is_own_name(inside) else None)
    if len(words) != 2:
        return None
    if words[0] in ("each", "if"):
        return (words[0], words[1]) if is_own_name(words[1]) else None
    if words[0] in ("block", "draw", "over"):
        return (words[0], words[1]) if is_name(words[1]) else None
    return None


def token_at(text, at):
    """What stands at a place of a text, or None where it is nothing; and how many signs it has."""
    if text[at] == "}":
        return (None, 1)
    if text[at] != "{":
        return (("lit", text[at]), 1)
    stop = text.find("}", at)
    if stop < 0:
        return (None, 1)
    # where another { stands ahead of the }, it stands inside, and so tells nothing
    inside = text[at + 1:stop]
    return (token_of(inside), len(inside) + 2)


def sheet_read(text):
    """The sheet of a text; refused with TooMany, NoSign, then NoSheet, Twice or TooMany by the first place."""
    if isinstance(text, str) and len(text) > MOST_SIGNS:
        raise TooMany("more than two thousand signs")
    need_text(text)
    draft = Draft()
    at = 0
    while at < len(text):
        found = token_at(text, at)
        draft.take(found[0], at)
        at += found[1]
    return draft.ended(len(text))
