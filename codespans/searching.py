"""Searches in ascending lists of integers."""


def count_below(values, bound):
    """Return how many of these ascending values are less than a bound."""
    low = 0
    high = len(values)
    while low < high:
        middle = (low + high) >> 1
        if values[middle] < bound:
            low = middle + 1
        else:
            high = middle
    return low


def first_from(values, low):
    """Return the first of these ascending values that is not less than low, or None."""
    at = count_below(values, low)
    return values[at] if at < len(values) else None
