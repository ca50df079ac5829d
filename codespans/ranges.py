"""Ranges of consecutive steps."""


def ranges_of(values):
    """Return (start, end, value) for each maximal range of equal neighbours in a list or tuple."""
    ranges = []
    start = 0
    for at, value in enumerate(values):
        if value != values[start]:
            ranges.append((start, at, values[start]))
            start = at
    if start < len(values):
        ranges.append((start, len(values), values[start]))
    return ranges
