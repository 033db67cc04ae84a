"""The errors that the package raises."""


class WayError(ValueError):
    """The base class of all errors of the package."""


class BadLine(WayError):
    """A row is wrong; row is its number, counted from 1."""

    def __init__(self, row):
        super().__init__(f"row {row}")
        self.row = row


class BadText(BadLine):
    """A row of a text has a wrong form or stands in a wrong place."""


class BadProgram(BadLine):
    """A row of a program breaks a rule for good programs."""


class BadPaper(BadLine):
    """A row of a paper's text is wrong."""


class TooLong(WayError):
    """The body of a program weighs too much."""


class TooWide(WayError):
    """A search has too many ends, or there are too many sets."""


class BadPlace(WayError):
    """A place has a wrong form or is not good for a program."""


class BadInput(WayError):
    """The integers are not an input of the program."""


class BadPair(WayError):
    """Two programs cannot be compared."""


class BadEdit(WayError):
    """An edit of a row is refused."""
