"""The refusals."""


class OutlineError(ValueError):
    """Any refusal."""


class NoText(OutlineError):
    """A text that can't be read; line is the number, from 1, of the first row that is wrong."""

    def __init__(self, line):
        OutlineError.__init__(self, f"row {line} can't stand where it does")
        self.line = line


class NoName(OutlineError):
    """A name that can't stand where it does."""


class NoCount(OutlineError):
    """Another number of things than is taken."""


class NoSet(OutlineError):
    """A param that would be changed."""


class TooWide(OutlineError):
    """A case with too many spots."""


class TooMany(OutlineError):
    """Too many ways."""
