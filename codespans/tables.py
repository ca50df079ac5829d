"""Tables: the positions of all steps of a code, as bytes."""

from codespans.checks import check_any_line, check_byte_data, check_source_line, check_step, is_int
from codespans.errors import BadCount
from codespans.ranges import ranges_of
from codespans.reading import read_entries
from codespans.searching import first_from
from codespans.spans import check_spans, covers, line_of
from codespans.writing import write_runs


class Table:
    """A table that was read from data, and what it tells of its steps."""

    def __init__(self, data, first_line):
        check_byte_data(data)
        check_source_line(first_line)
        own_data = bytes(data)
        entries = read_entries(own_data, first_line)
        self.data = own_data
        self.first_line = first_line
        self._entries = entries
        self._spans = _spans_of(entries)
        self.step_count = len(self._spans)

    @staticmethod
    def of(spans, first_line):
        """Return the shortest table for a list or tuple of spans."""
        check_spans(spans)
        check_source_line(first_line)
        return Table(write_runs(ranges_of(spans), first_line), first_line)

    def span_at(self, step):
        """Return the span of a step."""
        check_step(step, 0, self.step_count - 1)
        return self._spans[step]

    def spans(self):
        """Return the spans of all steps."""
        return list(self._spans)

    def runs(self):
        """Return (start, end, span) for each maximal range of steps with equal spans."""
        return ranges_of(self._spans)

    def entries(self):
        """Return (at, start, steps, name, span) for each entry of the data."""
        return list(self._entries)

    def line_ranges(self):
        """Return (start, end, line) for each maximal range of steps with the same line."""
        return ranges_of([line_of(span) for span in self._spans])

    def lines(self):
        """Return the lines of all spans, ascending, each once."""
        return sorted({span[0] for span in self._spans if span is not None})

    def stops(self, line):
        """Return the steps at which a range of this line begins."""
        check_any_line(line)
        return [start for start, _, own_line in self.line_ranges() if own_line == line]

    def next_line(self, line):
        """Return the smallest line of the table that is not less than line, or None."""
        check_any_line(line)
        return first_from(self.lines(), line)

    def covering(self, line, column):
        """Return (start, end) for each maximal range of steps that cover a source character."""
        check_any_line(line)
        if not is_int(column):
            raise BadCount(column)
        answers = [covers(span, line, column) for span in self._spans]
        return [(start, end) for start, end, covered in ranges_of(answers) if covered]

    def __eq__(self, other):
        return isinstance(other, Table) and self._spans == other._spans


def _spans_of(entries):
    """Return the span of each step of these entries."""
    spans = []
    for _, _, steps, _, span in entries:
        spans.extend([span] * steps)
    return spans


def difference(a, b):
    """Return the first step at which two tables differ, None if they are equal."""
    a_spans = a.spans()
    b_spans = b.spans()
    for step, (a_span, b_span) in enumerate(zip(a_spans, b_spans)):
        if a_span != b_span:
            return step
    if len(a_spans) == len(b_spans):
        return None
    return min(len(a_spans), len(b_spans))


def shortest(table):
    """Return the shortest table with the same spans and the same first line."""
    return Table.of(table.spans(), table.first_line)


def rebased(table, first_line):
    """Return the shortest table with the same spans and another first line."""
    return Table.of(table.spans(), first_line)
