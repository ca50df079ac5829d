"""Writes the shortest data for given positions."""

from codespans.forms import BARE, LINE, LONG, NONE
from codespans.numbers import write_number, write_signed
from codespans.spans import line_behind


def write_runs(runs, first_line):
    """Return the data for runs, tuples of start, end and span, with a first line."""
    pieces = []
    line = first_line
    for start, end, span in runs:
        pieces.append(_write_run(span, end - start, line))
        line = line_behind(span, line)
    return b"".join(pieces)


def _write_run(span, steps, line):
    pieces = []
    while steps > 0:
        many = min(steps, 8)
        pieces.append(_write_entry(span, many, line))
        line = line_behind(span, line)
        steps -= many
    return b"".join(pieces)


def _write_entry(span, steps, line):
    form, further = _form_and_bytes(span, line)
    return bytes([128 + 8 * form + steps - 1]) + further


def _form_and_bytes(span, line):
    """Return the first form that can express a span behind a current line, and its further bytes."""
    if span is None:
        return NONE, b""
    own_line, end_line, column, end_column = span
    change = own_line - line
    if column is None:
        return BARE, write_signed(change)
    width = end_column - column
    if end_line == own_line and change == 0 and column < 8 * LINE and width < 16:
        return column >> 3, bytes([16 * (column & 7) + width])
    if end_line == own_line and 0 <= change <= 2 and end_column < 128:
        return LINE + change, bytes([column, end_column])
    return LONG, _write_long(change, end_line - own_line, column, end_column)


def _write_long(change, height, column, end_column):
    numbers = write_number(height) + write_number(column + 1) + write_number(end_column + 1)
    return write_signed(change) + numbers
