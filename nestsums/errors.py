"""The errors that the program raises."""


class NestError(ValueError):
    """What every error of the program is; value tells what is wrong."""

    def __init__(self, value):
        self.value = value


class InvalidWord(NestError):
    """A term's word has a negative letter; the value is the term's number."""


class InvalidNumber(NestError):
    """A number is negative where none may be; the value is the number."""


class InvalidKind(NestError):
    """There is no such kind of rows; the value is the kind."""


class InvalidName(NestError):
    """A title is wrong or not there; the value is the title."""


class InvalidBlocks(NestError):
    """Blocks lie too deep within one another; the value is the depth."""


class NothingToUndo(NestError):
    """No call is left to be taken back; the value is 0."""


class TooLong(NestError):
    """Something has more parts than it may; the value is how many."""


class Unreadable(NestError):
    """A text is not that of a formula; the value is the text."""
