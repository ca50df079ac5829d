"""What several modules ask of their arguments."""

from codespans.errors import BadCount, BadLine, BadStep, BadTable

MOST = 2147483647

# Lists of steps and spans are not written out beyond this length.
MOST_STEPS = 5000

# So often at most a loop or a repetition runs.
MOST_TIMES = 1000000000000


def is_int(thing):
    """Tell whether any thing is an integer; a bool is none."""
    return isinstance(thing, int) and not isinstance(thing, bool)


def is_int_from(thing, low, high):
    """Tell whether any thing is an integer from low to high."""
    return is_int(thing) and low <= thing <= high


def is_byte_data(thing):
    """Tell whether any thing is bytes or a list or tuple of integers that are bytes."""
    if isinstance(thing, bytes):
        return True
    if not isinstance(thing, (list, tuple)):
        return False
    return all([is_int_from(item, 0, 255) for item in thing])


def check_byte_data(data):
    """Raise BadTable if a thing is not byte data."""
    if not is_byte_data(data):
        raise BadTable(-1, "data")


def check_source_line(line):
    """Raise BadLine if a thing can't be a line of a source."""
    if not is_int_from(line, 1, MOST):
        raise BadLine(line)


def check_any_line(line):
    """Raise BadLine if a thing is no integer at all."""
    if not is_int(line):
        raise BadLine(line)


def check_step(step, low, high):
    """Raise BadStep if a thing is not an integer from low to high."""
    if not is_int_from(step, low, high):
        raise BadStep(step)


def check_count(many, low, high):
    """Raise BadCount if a thing is not an integer from low to high."""
    if not is_int_from(many, low, high):
        raise BadCount(many)


def check_count_from(many, low):
    """Raise BadCount if a thing is not an integer from low on."""
    if not is_int(many) or many < low:
        raise BadCount(many)


def check_times(times):
    """Raise BadCount if a thing can't be a number of rounds."""
    check_count(times, 0, MOST_TIMES)
