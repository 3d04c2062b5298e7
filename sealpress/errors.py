"""The refusals: each one a class of its own, straight under SealError."""


class SealError(ValueError):
    """Any refusal."""


class NoSign(SealError):
    """A text is needed, and at this place stands none of SIGNS."""

    def __init__(self, at):
        SealError.__init__(self, f"none of SIGNS at {at}")
        self.at = at


class NoCode(SealError):
    """A coded text can't be read back."""

    def __init__(self, at):
        SealError.__init__(self, f"no code at {at}")
        self.at = at


class Unread(SealError):
    """The reader doesn't take the sign at this place."""

    def __init__(self, at):
        SealError.__init__(self, f"a sign that can't stand at {at}")
        self.at = at


class Unended(SealError):
    """A text ends where none may end."""


class NoPage(SealError):
    """The row of this number can't stand in a page."""

    def __init__(self, at):
        SealError.__init__(self, f"no page, by row {at}")
        self.at = at


class NoName(SealError):
    """A name is needed, and this is none."""

    def __init__(self, name):
        # what is no name may be anything, also a thing that can't be shown as a text
        SealError.__init__(self, "that is no name")
        self.name = name


class NoSheet(SealError):
    """A text tells no sheet, by what stands at this place."""

    def __init__(self, at):
        SealError.__init__(self, f"no sheet, by what stands at {at}")
        self.at = at


class Twice(SealError):
    """A sheet has two blocks by this name."""

    def __init__(self, name):
        SealError.__init__(self, f"a second block {name}")
        self.name = name


class TooMany(SealError):
    """More than a bound lets by."""


class Unknown(SealError):
    """There is no sheet by this name."""

    def __init__(self, name):
        SealError.__init__(self, f"no sheet {name}")
        self.name = name


class RingOver(SealError):
    """Sheets lie over one another in a ring."""

    def __init__(self, ring):
        SealError.__init__(self, "sheets over one another in a ring")
        self.ring = ring


class Ringed(SealError):
    """A seat stands within itself."""

    def __init__(self, ring):
        SealError.__init__(self, "a seat within itself")
        self.ring = ring


class NoElder(SealError):
    """There is no body behind that of the block by this name."""

    def __init__(self, name):
        SealError.__init__(self, f"no elder of block {name}")
        self.name = name


class Astray(SealError):
    """A literal can't be run through from the state at its place."""

    def __init__(self, place, at):
        SealError.__init__(self, f"a literal that can't be read, at its sign {at}")
        self.place = place
        self.at = at


class NoPlace(SealError):
    """A hole stands where no value can be put."""

    def __init__(self, name, place):
        SealError.__init__(self, f"no place for the hole {name}")
        self.name = name
        self.place = place


class Unlike(SealError):
    """Two places that must have one state have two."""

    def __init__(self, what, one, other):
        SealError.__init__(self, "two states where one must be")
        self.what = what
        self.one = one
        self.other = other


class LeftOpen(SealError):
    """The pieces end at a state at which no text may end."""

    def __init__(self, place):
        SealError.__init__(self, "the end is none for the reader")
        self.place = place


class NoValue(SealError):
    """No scope has a value for this name."""

    def __init__(self, name):
        SealError.__init__(self, f"no value of {name}")
        self.name = name


class NoKind(SealError):
    """The value of this name is of another kind than is wanted."""

    def __init__(self, name):
        SealError.__init__(self, f"the value of {name} is of another kind")
        self.name = name


class NoRow(SealError):
    """That is no row for a desk."""
