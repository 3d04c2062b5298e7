"""Books: sheets kept by their names."""

from sealpress.errors import NoName, TooMany, Unknown
from sealpress.sheets import Sheet, sheet_read
from sealpress.signs import is_name

MOST_SHEETS = 20


class Book:
    """Sheets, each by a name."""

    def __init__(self):
        # no sheet in here is changed or handed to an asker, so that copies of the book may have the same ones
        self.kept = {}

    def tell(self, name, text):
        """Keeps the sheet of a text by a name; refused with NoName, as the text is, then with TooMany."""
        if not is_name(name):
            raise NoName(name)
        told = sheet_read(text)
        if name not in self.kept and len(self.kept) >= MOST_SHEETS:
            raise TooMany("more than twenty sheets")
        self.kept[name] = told

    def names(self):
        """A list of the names, sorted."""
        return sorted(self.kept)

    def kept_sheet(self, name):
        """The very sheet that is kept by a name, for the package alone and to be read only; refused with Unknown."""
        if name not in self.kept:
            raise Unknown(name)
        return self.kept[name]

    def sheet(self, name):
        """The sheet of a name, the asker's own; refused with Unknown."""
        found = self.kept_sheet(name)
        return Sheet(found.over, found.pieces)

    def copied(self):
        """A book of the same sheets: what is told to one of both is not told to the other."""
        other = Book()
        other.kept = dict(self.kept)
        return other
