"""Reads the entries of a table and refuses damaged ones."""

from codespans.checks import MOST, is_int_from
from codespans.errors import BadTable
from codespans.forms import BARE, LINE, LONG, NONE, name_of
from codespans.numbers import read_further, read_number, read_signed
from codespans.spans import is_span, line_behind


def read_entries(data, first_line):
    """Return (at, start, steps, name, span) for each entry of a whole table."""
    entries = []
    at = 0
    start = 0
    line = first_line
    while at < len(data):
        steps, name, span, behind = read_entry(data, at, line)
        entries.append((at, start, steps, name, span))
        at = behind
        start += steps
        line = line_behind(span, line)
    return entries


def read_entry(data, at, line):
    """Return the steps, the name and the span of the entry at an index, and the index behind it.

    line is the current line before the entry.
    """
    first = data[at]
    if first < 128:
        raise BadTable(at, "start")
    form = (first - 128) >> 3
    span, behind = _read_position(data, at + 1, form, line)
    _check_position(span, at)
    return (first & 7) + 1, name_of(form), span, behind


def _read_position(data, at, form, line):
    """Return what the further bytes of an entry tell, not checked yet, and the index behind them."""
    if form == NONE:
        return None, at
    if form == LONG:
        return _read_long(data, at, line)
    if form == BARE:
        change, behind = read_signed(data, at)
        return (line + change, line + change, None, None), behind
    first = read_further(data, at)
    if form < LINE:
        column = 8 * form + (first >> 4)
        return (line, line, column, column + (first & 15)), at + 1
    second = read_further(data, at + 1)
    own_line = line + form - LINE
    return (own_line, own_line, first, second), at + 2


def _read_long(data, at, line):
    change, at = read_signed(data, at)
    height, at = read_number(data, at)
    column, at = read_number(data, at)
    end_column, at = read_number(data, at)
    own_line = line + change
    return (own_line, own_line + height, _column(column), _column(end_column)), at


def _column(number):
    return None if number == 0 else number - 1


def _check_position(span, at):
    """Raise BadTable for the entry at an index if its span breaks a rule."""
    if span is None:
        return
    if not is_int_from(span[0], 1, MOST) or not is_int_from(span[1], 1, MOST):
        raise BadTable(at, "line")
    # With valid lines, a span can be wrong by its columns only.
    if not is_span(span):
        raise BadTable(at, "columns")
