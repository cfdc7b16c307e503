"""The refusals: classes straight under StrandError, none under another."""


class StrandError(ValueError):
    """What all refusals are."""


class NoText(StrandError):
    """A text that has not the form of what it should tell; row is the first row at fault."""

    def __init__(self, row):
        StrandError.__init__(self, f"row {row} has no such form")
        self.row = row


class NoPage(StrandError):
    """A thing put into a book that is no page."""


class Twice(StrandError):
    """A page of a number and version that were put with other entries."""


class NoLine(StrandError):
    """A line that a desk doesn't know."""
