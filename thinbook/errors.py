"""The refusals: each has a class of its own, straight under BookError."""


class BookError(ValueError):
    """Any refusal."""


class NoNumber(BookError):
    """A number that doesn't fit where it stands."""


class NoRule(BookError):
    """Steps and gone that make no rule, or a rule or edges that don't fit the others."""


class Backward(BookError):
    """A day ahead of the one that is come to already, which is the field last."""

    def __init__(self, last):
        BookError.__init__(self, "a day ahead of the last one")
        self.last = last


class Gone(BookError):
    """A stretch with times below the edge of gone, which is the field edge."""

    def __init__(self, edge):
        BookError.__init__(self, "a stretch with times that are gone")
        self.edge = edge


class NoAsk(BookError):
    """A word that asks for nothing."""


class NoAnswer(BookError):
    """An end that is None, of which nothing can be shown."""


class NoName(BookError):
    """What is no name, a name that is enrolled already, or one that is not."""


class NoMark(BookError):
    """What is no mark or no sieve, a mark told twice, or too many marks."""


class TooMany(BookError):
    """More steps of an ask than are told."""


class NoHouse(BookError):
    """A house by whose name no book is kept."""


class NoText(BookError):
    """A text that is not written so; its first row that is not good is the field line."""

    def __init__(self, line):
        BookError.__init__(self, "a text that is not written so")
        self.line = line


class NoRow(BookError):
    """What is no row of a desk."""
