"""Edits of tables when the code or the source changes, and patches between their data."""

from codespans.checks import (
    MOST, check_byte_data, check_count, check_count_from, check_source_line, check_step,
)
from codespans.errors import BadLine
from codespans.spans import check_spans
from codespans.tables import Table


def insert(table, step, spans):
    """Return the table with more spans before a step."""
    check_step(step, 0, table.step_count)
    check_spans(spans)
    old = table.spans()
    return Table.of(old[:step] + list(spans) + old[step:], table.first_line)


def remove(table, start, end):
    """Return the table without the steps from start to end - 1."""
    _check_range(table, start, end)
    old = table.spans()
    return Table.of(old[:start] + old[end:], table.first_line)


def cut(table, start, end):
    """Return the table of the steps from start to end - 1 alone."""
    _check_range(table, start, end)
    return Table.of(table.spans()[start:end], table.first_line)


def grow(table, step, many):
    """Return the table with the span of a step repeated many more times directly behind it."""
    check_step(step, 0, table.step_count - 1)
    check_count_from(many, 0)
    old = table.spans()
    return Table.of(old[:step + 1] + [old[step]] * many + old[step + 1:], table.first_line)


def joined(a, b):
    """Return the table of the steps of a and then those of b, with the first line of a."""
    return Table.of(a.spans() + b.spans(), a.first_line)


def _check_range(table, start, end):
    check_step(start, 0, table.step_count)
    check_step(end, start, table.step_count)


def patch(old, new):
    """Return (at, removed, added), the smallest change that makes the new data of the old data."""
    at = _common_length(old.data, new.data)
    # The common end is looked for behind the common beginning only, so that they never overlap.
    old_rest = old.data[at:]
    new_rest = new.data[at:]
    kept = _common_length(old_rest[::-1], new_rest[::-1])
    return at, len(old_rest) - kept, new_rest[:len(new_rest) - kept]


def patched(data, change):
    """Return the data with a change applied that patch returned."""
    check_byte_data(data)
    at, removed, added = change
    old = bytes(data)
    return old[:at] + added + old[at + removed:]


def _common_length(a, b):
    """Return the length of the longest common beginning of two byte strings."""
    many = 0
    for a_byte, b_byte in zip(a, b):
        if a_byte != b_byte:
            break
        many += 1
    return many


def moved(table, line, removed, added):
    """Return the table for a source in which some lines from a line on were replaced by others."""
    check_source_line(line)
    check_count(removed, 0, MOST)
    check_count(added, 0, MOST)
    behind = line + removed
    spans = [_moved_span(span, line, behind, added - removed) for span in table.spans()]
    return Table.of(spans, table.first_line)


def _moved_span(span, start, behind, growth):
    """Return a span after an edit that removed the lines from start to behind - 1."""
    if span is None:
        return None
    line, end_line, column, end_column = span
    # This also holds for no span at all if no line was removed, even if one lies across start.
    if max(line, start) < min(end_line + 1, behind):
        return None
    return (_moved_line(line, behind, growth), _moved_line(end_line, behind, growth), column, end_column)


def _moved_line(line, behind, growth):
    new = line + growth if line >= behind else line
    if new > MOST:
        raise BadLine(new)
    return new
