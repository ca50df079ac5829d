"""Spans: the source position of a step, or None."""

from codespans.checks import MOST, is_int_from
from codespans.errors import BadSpan


def is_span(thing):
    """Tell whether any thing is a span."""
    if thing is None:
        return True
    if not isinstance(thing, tuple) or len(thing) != 4:
        return False
    line, end_line, column, end_column = thing
    if not is_int_from(line, 1, MOST) or not is_int_from(end_line, line, MOST):
        return False
    if column is None and end_column is None:
        return end_line == line
    if not is_int_from(column, 0, MOST) or not is_int_from(end_column, 0, MOST):
        return False
    return end_line > line or end_column >= column


def check_spans(spans):
    """Raise BadSpan if a thing is not a list or tuple of spans."""
    if not isinstance(spans, (list, tuple)):
        raise BadSpan(-1)
    for at, span in enumerate(spans):
        if not is_span(span):
            raise BadSpan(at)


def line_of(span):
    """Return the line of a span, None if it is no position."""
    return None if span is None else span[0]


def line_behind(span, line):
    """Return the current line behind an entry with this span, line being the one before it."""
    return line if span is None else span[0]


def covers(span, line, column):
    """Tell whether a span has columns and covers a source character."""
    if span is None or span[2] is None:
        return False
    first_line, end_line, first_column, end_column = span
    return (first_line, first_column) <= (line, column) < (end_line, end_column)
