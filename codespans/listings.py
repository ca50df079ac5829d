"""Listings: the runs of a table as rows of text."""

from codespans.checks import MOST_STEPS
from codespans.errors import BadText
from codespans.spans import is_span
from codespans.tables import Table

MOST_DIGITS = 10


def listing(table):
    """Return a row of text for each run of a table."""
    return [f"{start}-{end} {_text_of(span)}" for start, end, span in table.runs()]


def _text_of(span):
    if span is None:
        return "none"
    line, end_line, column, end_column = span
    if column is None:
        return str(line)
    return f"{line}:{column}-{end_line}:{end_column}"


def from_listing(rows, first_line):
    """Return the shortest table for rows as listing gives them, which may be split further."""
    if not isinstance(rows, (list, tuple)):
        raise BadText(-1)
    spans = []
    for at, row in enumerate(rows):
        start, end, span = _read_row(row, at)
        if start != len(spans) or not start < end <= MOST_STEPS or not is_span(span):
            raise BadText(at)
        spans.extend([span] * (end - start))
    return Table.of(spans, first_line)


def _read_row(row, at):
    """Return the start, the end and the span that a row tells, whatever their values are."""
    if not isinstance(row, str):
        raise BadText(at)
    words = row.split(" ")
    if len(words) != 2:
        raise BadText(at)
    steps = [_read_number(word, at) for word in words[0].split("-")]
    if len(steps) != 2:
        raise BadText(at)
    return steps[0], steps[1], _read_span(words[1], at)


def _read_span(text, at):
    if text == "none":
        return None
    places = [[_read_number(word, at) for word in place.split(":")] for place in text.split("-")]
    sizes = [len(place) for place in places]
    if sizes == [1]:
        line = places[0][0]
        return (line, line, None, None)
    if sizes != [2, 2]:
        raise BadText(at)
    (line, column), (end_line, end_column) = places
    return (line, end_line, column, end_column)


def _read_number(word, at):
    # Other scripts have digits, too, and int reads signs, blanks and underscores.
    is_number = word.isascii() and word.isdigit() and len(word) <= MOST_DIGITS
    if not is_number or (word[0] == "0" and word != "0"):
        raise BadText(at)
    return int(word)
