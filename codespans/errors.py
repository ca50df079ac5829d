"""The errors of the package, each with its arguments as attributes."""


class TableError(ValueError):
    """The base of all errors of the package."""


class BadTable(TableError):
    """Data that is no table: why, and at which index of the data."""

    def __init__(self, at, why):
        self.at = at
        self.why = why


class BadLine(TableError):
    """A line that is not valid where it stands."""

    def __init__(self, line):
        self.line = line


class BadSpan(TableError):
    """A thing that is no span, at an index; -1 if the spans are no list."""

    def __init__(self, at):
        self.at = at


class BadStep(TableError):
    """A step that is not valid where it stands."""

    def __init__(self, step):
        self.step = step


class BadCount(TableError):
    """A number that is not valid where it stands."""

    def __init__(self, many):
        self.many = many


class BadText(TableError):
    """A row that belongs to no listing, at an index; -1 if the rows are no list."""

    def __init__(self, at):
        self.at = at


class TooLong(TableError):
    """A result that would be too long to be written out."""
