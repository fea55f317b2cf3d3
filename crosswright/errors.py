"""The refusals of the program, each with the field that tells what was refused.

What was handed in may be anything at all, so no refusal writes it into its own words.
"""


class CrossError(ValueError):
    """Any refusal."""


class NoSheet(CrossError):
    """A text, or another thing, that tells no sheet."""

    def __init__(self, line):
        CrossError.__init__(self, "no sheet is told")
        self.line = line


class NoFloor(CrossError):
    """A floor that is not let by."""

    def __init__(self, cell):
        CrossError.__init__(self, "the floor is not let by")
        self.cell = cell


class NoWord(CrossError):
    """A thing that is no word."""

    def __init__(self, word):
        CrossError.__init__(self, "this is no word")
        self.word = word


class Twice(CrossError):
    """A word that is in the book already."""

    def __init__(self, word):
        CrossError.__init__(self, "the word is there already")
        self.word = word


class NotThere(CrossError):
    """A word that is not in the book."""

    def __init__(self, word):
        CrossError.__init__(self, "the word is not there")
        self.word = word


class NoLine(CrossError):
    """A line that stands in no book."""

    def __init__(self, line):
        CrossError.__init__(self, "this is no line of a book")
        self.line = line


class NotFilled(CrossError):
    """A sheet that is no filling of the book."""


class NoMatch(CrossError):
    """Two sheets that have not one floor."""


class NoWorking(CrossError):
    """A text, or another thing, that tells no working."""


class NoStep(CrossError):
    """A working, or a part of one, that can't be made."""

    def __init__(self, step):
        CrossError.__init__(self, "the step can't be made")
        self.step = step


class NoName(CrossError):
    """A thing that is no name, or a name by which no sheet stands."""

    def __init__(self, name):
        CrossError.__init__(self, "no sheet stands by this name")
        self.name = name


class NoDeed(CrossError):
    """A row that the desk does not know."""
