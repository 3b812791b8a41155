"""What rowscribe refuses."""


class ScribeError(ValueError):
    """Any refusal."""


class BadRow(ScribeError):
    """A text that can't be written: the row's number, and why."""

    def __init__(self, row, why):
        ScribeError.__init__(self, f"row {row}: {why}")
        self.row = row
        self.why = why


class BadWords(ScribeError):
    """Words that are none: the number of the first."""

    def __init__(self, number):
        ScribeError.__init__(self, f"number {number} is no word")
        self.number = number


class BadBegins(ScribeError):
    """Begins that are none: the number of the first."""

    def __init__(self, number):
        ScribeError.__init__(self, f"number {number} is no place to begin at")
        self.number = number


class BadCount(ScribeError):
    """A count of rows to do that is none."""
