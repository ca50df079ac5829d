"""What several modules ask of their arguments."""

from codespans.errors import BadLine, BadTable

MOST = 2147483647


def is_int(thing):
    """Tell whether any thing is an integer; a bool is none."""
    return isinstance(thing, int) and not isinstance(thing, bool)


def is_int_from(thing, low, high):
    """Tell whether any thing is an integer from low to high."""
    return is_int(thing) and low <= thing <= high


def is_byte_data(thing):
    """Tell whether any thing is bytes or a list or tuple of integers that are bytes."""
    if isinstance(thing, bytes):
        return True
    if not isinstance(thing, (list, tuple)):
        return False
    return all([is_int_from(item, 0, 255) for item in thing])


def check_byte_data(data):
    """Raise BadTable if a thing is not byte data."""
    if not is_byte_data(data):
        raise BadTable(-1, "data")


def check_first_line(first_line):
    """Raise BadLine if a thing can't be the first line of a table."""
    if not is_int_from(first_line, 1, MOST):
        raise BadLine(first_line)
