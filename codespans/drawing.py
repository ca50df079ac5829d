"""Draws source lines with the characters of a span marked below them."""

from codespans.checks import check_count
from codespans.errors import BadCount, BadSpan
from codespans.spans import is_span

BLANKS = " \t"
MARGIN = "    "

# Of more lines than these, only the first and the last ones are drawn.
MOST_LINES = 5
KEPT_LINES = 2


def carets(span, text, *, indent=4, anchor=None, tab=0, wide=""):
    """Return the line of a span as it is shown, and a row of marks if it tells anything."""
    if not is_span(span):
        raise BadSpan(0)
    check_count(indent, 0, 200)
    check_count(tab, 0, 16)
    shown = text.strip(BLANKS)
    if shown == "":
        return []
    widths = _widths(shown, tab, wide)
    rows = [" " * indent + _without_tabs(shown, widths, tab)]
    start = _leading(text)
    end = start + len(shown)
    low, high = _limits(span, start, end)
    if low < high and (low, high) != (start, end):
        marks = " " * (low - start) + _marks(low, high, anchor)
        rows.append(" " * indent + "".join([mark * width for mark, width in zip(marks, widths)]))
    return rows


def _leading(line):
    """Return the number of blanks and tabs at the beginning of a line."""
    return len(line) - len(line.lstrip(BLANKS))


def _widths(shown, tab, wide):
    """Return the number of cells of each character."""
    widths = []
    cells = 0
    for sign in shown:
        if sign == "\t" and tab > 0:
            width = tab - int(cells) % tab
        else:
            width = 2 if sign in wide else 1
        widths.append(width)
        cells += width
    return widths


def _without_tabs(shown, widths, tab):
    """Return the text with its tabs as blanks, if tabs are shown so."""
    if tab == 0:
        return shown
    return "".join([" " * width if sign == "\t" else sign for sign, width in zip(shown, widths)])


def _limits(span, start, end):
    """Return the first column that a span marks of those from start to end - 1, and the one behind."""
    if span is None or span[2] is None:
        return start, start
    line, end_line, column, end_column = span
    high = end if end_line > line else min(end_column, end)
    return max(column, start), high


def _marks(low, high, anchor):
    """Return the mark of each character from column low to high - 1."""
    left = low if anchor is None else max(low, anchor[0])
    right = high if anchor is None else min(high, anchor[1])
    if left >= right:
        return "^" * (high - low)
    return "~" * (left - low) + "^" * (right - left) + "~" * (high - right)


def marked(span, lines):
    """Return all lines of a span with columns as they are shown, with rows of marks."""
    if not is_span(span) or span is None or span[2] is None:
        raise BadSpan(0)
    line, end_line, column, end_column = span
    _check_lines(lines, end_line - line + 1)
    texts = [text.rstrip(BLANKS) for text in lines]
    margin = min([_leading(text) for text in texts if text != ""], default=0)
    last = len(texts) - 1
    blocks = []
    for at, text in enumerate(texts):
        low = max(_leading(text), column) if at == 0 else _leading(text)
        high = min(len(text), end_column) if at == last else len(text)
        blocks.append(_block(text, margin, low, high))
    return _rows_of(blocks)


def _check_lines(lines, many):
    """Raise BadCount if a thing is not a list of so many strings."""
    if not isinstance(lines, list) or not all([isinstance(text, str) for text in lines]):
        raise BadCount(-1)
    if len(lines) != many:
        raise BadCount(len(lines))


def _block(text, margin, low, high):
    """Return a line as it is shown, and a row of marks if it has a marked character."""
    rows = [MARGIN + text[margin:]]
    if low < high:
        rows.append(MARGIN + " " * (low - margin) + "^" * (high - low))
    return rows


def _rows_of(blocks):
    """Return the rows of all lines, those in the middle replaced if there are too many lines."""
    if len(blocks) <= MOST_LINES:
        return [row for block in blocks for row in block]
    many = len(blocks) - 2 * KEPT_LINES
    first = [row for block in blocks[:KEPT_LINES] for row in block]
    last = [row for block in blocks[-KEPT_LINES:] for row in block]
    return [*first, f"{MARGIN}...<{many} lines>...", *last]
