"""Desks: told rows of text, one at a time, and answering each with a text."""

from sealpress.chains import chain_of, leans_on
from sealpress.errors import NoKind, NoRow
from sealpress.keeper import Keeper
from sealpress.laying import laid
from sealpress.press import pressed
from sealpress.reader import read
from sealpress.signs import is_name, need_text
from sealpress.texts import page_text, pairs_text
from sealpress.values import MOST_ROWS

# the words behind the first one of each row, by their kinds; text is all that is left, blanks and all
FORMS = {
    "sheet": ("name", "text"), "value": ("name", "text"), "truth": ("name", "yes"), "rows": ("name",),
    "row": ("name",), "cell": ("name", "name", "text"), "mark": ("name", "name", "yes"),
    "press": ("name",), "look": ("name",), "looks": (), "chain": ("name",), "leans": ("name",), "read": ("text",),
}
TRUTHS = {"yes": True, "no": False}


def can_be(word, kind):
    """Whether a word of a row is of a kind."""
    if kind == "name":
        return is_name(word)
    return kind == "text" or word in TRUTHS


def words_of(row):
    """The words of a row; refused with NoRow, NoSign, NoRow."""
    if not isinstance(row, str):
        raise NoRow("that is no text")
    need_text(row)
    first = row.split(" ", 1)[0]
    kinds = FORMS.get(first)
    if kinds is None:
        raise NoRow("no row begins so")
    words = row.split(" ", len(kinds))
    if words[0] != first or len(words) != len(kinds) + 1:
        raise NoRow("too many or too few words")
    if not all([can_be(word, kind) for word, kind in zip(words[1:], kinds)]):
        raise NoRow("a word of another kind")
    return words


def look_words(pair):
    """The four words of a pair of a part and a floored state."""
    state = pair[1]
    return (pair[0], state[0], state[1] or ".", state[3] or ".")


class Desk:
    """A keeper, data, and what the last look has looked at."""

    def __init__(self):
        self.keeper = Keeper()
        self.data = {}
        self.looked = []

    def say(self, row):
        """The answer to a row; refused with NoRow, NoSign, and as the stages refuse."""
        words = words_of(row)
        if words[0] in ("row", "cell", "mark"):
            self.change_rows(words)
        elif words[0] in ("sheet", "value", "truth", "rows"):
            self.keep(words)
        else:
            return self.answer(words)
        return "ok"

    def keep(self, words):
        """Tells a sheet to the keeper, or keeps a value in the place of the one that its name had."""
        if words[0] == "sheet":
            self.keeper.tell(words[1], words[2])
        elif words[0] == "value":
            self.data[words[1]] = words[2]
        elif words[0] == "truth":
            self.data[words[1]] = TRUTHS[words[2]]
        else:
            self.data[words[1]] = []

    def change_rows(self, words):
        """Adds a row to a list, or a value to its last row; refused with NoKind."""
        value = self.data.get(words[1])
        if not isinstance(value, list):
            raise NoKind(words[1])
        if words[0] == "row":
            if len(value) >= MOST_ROWS:
                raise NoKind(words[1])
            value.append({})
        elif not value:
            raise NoKind(words[1])
        else:
            value[-1][words[2]] = TRUTHS[words[3]] if words[0] == "mark" else words[3]

    def answer(self, words):
        """What is asked."""
        word = words[0]
        if word == "press":
            return pressed(laid(self.keeper.book(), words[1]), self.data)[0]
        if word == "look":
            told = self.keeper.look(words[1])
            self.looked = told[1]
            return pairs_text(told[0])
        if word == "looks":
            return pairs_text([look_words(pair) for pair in self.looked])
        if word == "chain":
            return " ".join(chain_of(self.keeper.book(), words[1]))
        if word == "leans":
            return " ".join(leans_on(self.keeper.book(), words[1]))
        return page_text(read(words[1]))
