"""Keepers: a book whose pages are looked at, no drawn part twice where once is enough."""

from sealpress.book import Book
from sealpress.chains import leans_on
from sealpress.laying import laid
from sealpress.looker import looked_at


class Keeper:
    """A book of its own, and the drawn parts that were looked at without fault."""

    def __init__(self):
        self.told = Book()
        # what looking has found of each part, by its name and the floored state at which it is drawn
        self.kept = {}

    def tell(self, name, text):
        """Tells a sheet to the book; parts that lean on it are let go. Refused as a book refuses."""
        self.told.tell(name, text)
        parts = sorted(set([pair[0] for pair in self.kept]))
        leaning = [part for part in parts if name in leans_on(self.told, part)]
        self.kept = dict([(pair, found) for pair, found in self.kept.items() if pair[0] not in leaning])

    def names(self):
        """A list of the book's names, sorted."""
        return self.told.names()

    def sheet(self, name):
        """The sheet of a name, the asker's own; refused with Unknown."""
        return self.told.sheet(name)

    def book(self):
        """A copy of the book."""
        return self.told.copied()

    def look(self, name):
        """The places of the holes of a page, and the pairs that were looked at; refused as laying and looking do."""
        return looked_at(laid(self.told, name), self.kept)
