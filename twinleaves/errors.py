"""The errors of the package."""


class LeafError(ValueError):
    """Something that the package was given is not as it must be."""


class BadScript(LeafError):
    """No script: place is that of the first step that is none, or None."""

    def __init__(self, place):
        LeafError.__init__(self, f"no script, or no step at its place: {place}")
        self.place = place


class BadText(LeafError):
    """A text that is not that of a script."""

    def __init__(self, line, column):
        LeafError.__init__(self, f"line {line}, column {column} does not fit")
        self.line = line
        self.column = column


class BadValues(LeafError):
    """No values of unknowns, or no unknown."""


class BadPlace(LeafError):
    """No such place."""


class BadNumber(LeafError):
    """No such number."""


class BadSteps(LeafError):
    """No such steps."""


class TooLarge(LeafError):
    """More than the package decides."""


class BadForm(LeafError):
    """No form."""


class BadGiven(LeafError):
    """A text that is not that of values."""

    def __init__(self, line, column):
        LeafError.__init__(self, f"line {line}, column {column} does not fit")
        self.line = line
        self.column = column


class Refused(LeafError):
    """A step that had to be done is refused."""

    def __init__(self, step):
        LeafError.__init__(self, "the step is refused")
        self.step = step


class BadShape(LeafError):
    """No shape of spaces."""


class BadLayout(LeafError):
    """No layout, no wanted leaves, or no free frames."""


class BadEdit(LeafError):
    """No row of edits: place is that of the first one that is no edit, or None."""

    def __init__(self, place):
        LeafError.__init__(self, f"no row of edits, or no edit at its place: {place}")
        self.place = place


class BadBook(LeafError):
    """No book, no entry, or no right."""


class BadChange(LeafError):
    """A row of edits that makes no change."""


class BadMemory(LeafError):
    """No memory, or no such frames."""


class BadTouches(LeafError):
    """No touches of leaves, or no weights for them."""


class NoLeaf(LeafError):
    """A leaf that has no entry."""

    def __init__(self, leaf):
        LeafError.__init__(self, "the leaf has no entry")
        self.leaf = leaf
