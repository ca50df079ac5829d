"""Numbers in the data of a table: groups of 6 bits, the lowest group first."""

from codespans.checks import is_int
from codespans.errors import BadCount, BadTable

# A reader takes 8 groups at most; this is how far the eighth one is shifted.
LAST_SHIFT = 42


def write_number(n):
    """Return the bytes of an integer that is not negative."""
    if not is_int(n) or n < 0:
        raise BadCount(n)
    groups = []
    rest = n
    while rest > 63:
        groups.append(64 + (rest & 63))
        rest = rest >> 6
    groups.append(rest)
    return bytes(groups)


def write_signed(n):
    """Return the bytes of an integer with a sign."""
    if not is_int(n):
        raise BadCount(n)
    return write_number(2 * n if n >= 0 else 2 * -n + 1)


def read_further(data, at):
    """Return the byte at an index of data where an entry goes on."""
    if at == len(data):
        raise BadTable(at, "torn")
    if data[at] > 127:
        raise BadTable(at, "inside")
    return data[at]


def read_number(data, at):
    """Return the number at an index of data, and the index behind it."""
    number = 0
    shift = 0
    group = read_further(data, at)
    while group > 63:
        if shift == LAST_SHIFT:
            raise BadTable(at, "number")
        number += (group & 63) << shift
        shift += 6
        at += 1
        group = read_further(data, at)
    return number + (group << shift), at + 1


def read_signed(data, at):
    """Return the signed number at an index of data, and the index behind it."""
    number, behind = read_number(data, at)
    half = number >> 1
    return (-half if number & 1 else half), behind
