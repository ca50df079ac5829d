"""Writes and reads tables piece by piece."""

from codespans.checks import MOST_STEPS, check_byte_data, check_count, check_source_line
from codespans.errors import BadSpan, BadTable
from codespans.reading import read_entry
from codespans.spans import is_span, line_behind
from codespans.tables import Table


class Writer:
    """Collects spans for a table."""

    def __init__(self, first_line):
        check_source_line(first_line)
        self._first_line = first_line
        self._spans = []
        self.step_count = 0

    def add(self, span, steps):
        """Add a span for some steps."""
        if not is_span(span):
            raise BadSpan(0)
        check_count(steps, 1, MOST_STEPS)
        self._spans.extend([span] * steps)
        self.step_count += steps

    def table(self):
        """Return the shortest table for all spans so far."""
        return Table.of(self._spans, self._first_line)


class Reader:
    """Reads the entries of a table from pieces of its bytes."""

    def __init__(self, first_line):
        check_source_line(first_line)
        self._first_line = first_line
        self._data = []
        # The index behind the last complete entry, and the line there.
        self._at = 0
        self._line = first_line
        # The arguments of the error that every feed raises from the first problem on.
        self._problem = None
        self.step_count = 0
        self.pending = 0

    def feed(self, piece):
        """Take more bytes, and return the entries that became complete, as Table.entries does."""
        if self._problem is not None:
            at, why = self._problem
            raise BadTable(at, why)
        check_byte_data(piece)
        self._data.extend(list(piece))
        entries = []
        try:
            while self._at < len(self._data):
                entries.append(self._next_entry())
        except BadTable as e:
            # An entry that is torn now can be continued by the next piece.
            if e.why != "torn":
                self._problem = (e.at, e.why)
                self.pending = 0
                raise
        self.pending = len(self._data) - self._at
        return entries

    def close(self):
        """Return the table of all bytes, which are to end behind an entry."""
        # These bytes hold the first problem, if there is one, so that the table raises it again.
        return Table(self._data, self._first_line)

    def _next_entry(self):
        """Return (at, start, steps, name, span) for the next entry, and go on behind it."""
        steps, name, span, behind = read_entry(self._data, self._at, self._line)
        entry = (self._at, self.step_count, steps, name, span)
        self._at = behind
        self._line = line_behind(span, self._line)
        self.step_count += steps
        return entry
