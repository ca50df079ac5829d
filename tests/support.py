"""What several tests share."""

import random
import unittest

MOST = 2147483647


class Case(unittest.TestCase):
    """A test case that checks errors by their exact class and attributes."""

    def check_raises(self, error, attributes, call, *args, **kwargs):
        with self.assertRaises(error) as caught:
            call(*args, **kwargs)
        self.assertIs(type(caught.exception), error)
        for name, wanted in attributes.items():
            got = getattr(caught.exception, name)
            self.assertIs(type(got), type(wanted))
            self.assertEqual(got, wanted)

    def check_refuses(self, error, name, thing, call, *args, **kwargs):
        """The error keeps the very thing that was refused, whatever it is."""
        with self.assertRaises(error) as caught:
            call(*args, **kwargs)
        self.assertIs(type(caught.exception), error)
        self.assertIs(getattr(caught.exception, name), thing)


class Odd:
    """An object that is nothing that the package takes, and that can't even be shown."""

    def __repr__(self):
        raise RuntimeError("not to be shown")

    __str__ = __repr__


ODD = Odd()

# Things that are no integers, for every argument that is to be one.
NO_INTEGERS = [None, True, False, 1.0, "1", b"1", [1], (1,), {1: 1}, ODD]


def groups_of(n, padding=0):
    """A number as the document words it, with leading zero groups."""
    groups = [n % 64]
    n //= 64
    while n:
        groups.append(n % 64)
        n //= 64
    groups += [0] * padding
    return [group + 64 for group in groups[:-1]] + groups[-1:]


def signed_groups(n, padding=0):
    return groups_of(2 * n if n >= 0 else -2 * n + 1, padding)


def first_byte(form, steps):
    return 128 + 8 * form + steps - 1


def random_span(rng, lines=9):
    """A span as they come in a code: mostly of nearby lines and small columns."""
    kind = rng.randrange(10)
    if kind < 2:
        return None
    line = rng.randint(1, lines)
    if kind == 9:
        line = rng.choice([1, MOST, MOST - 1, rng.randint(1, MOST)])
    if kind == 2:
        return (line, line, None, None)
    column = rng.choice([0, 1, 7, 8, 79, 80, 127, 128, rng.randint(0, 200), MOST])
    width = rng.choice([0, 1, 14, 15, 16, 17, rng.randint(0, 200)])
    if kind < 8:
        return (line, line, column, min(column + width, MOST))
    return (line, min(line + rng.randint(1, 4), MOST), min(column, MOST), rng.randint(0, 200))


def random_spans(seed, most_runs=12, lines=9):
    """A list of spans with runs of all lengths around 8 and 16, the same for the same seed."""
    rng = random.Random(seed)
    spans = []
    for _ in range(rng.randint(0, most_runs)):
        span = random_span(rng, lines)
        if span is not None and span[1] < span[0]:
            span = None
        if span is not None and span[0] == span[1] and span[2] is not None and span[3] < span[2]:
            span = None
        spans += [span] * rng.choice([1, 1, 1, 2, 7, 8, 9, 16, 17])
    return spans


def random_data(seed, spans, first_line):
    """Data with these spans, written in random forms, cuts and paddings, by its own rules."""
    rng = random.Random(seed)
    data = []
    line = first_line
    at = 0
    while at < len(spans):
        span = spans[at]
        steps = 1
        limit = rng.randint(1, 8)
        while steps < limit and at + steps < len(spans) and spans[at + steps] == span:
            steps += 1
        data += rng.choice(entries_for(rng, span, steps, line))
        if span is not None:
            line = span[0]
        at += steps
    return bytes(data)


def entries_for(rng, span, steps, line):
    """All forms in which one entry can say a span, numbers with random leading zero groups."""
    if span is None:
        return [[first_byte(15, steps)]]

    def number(n):
        groups = groups_of(n)
        return groups_of(n, rng.randint(0, 8 - len(groups)))

    def signed(n):
        if n == 0 and rng.randrange(3) == 0:
            return number(1)
        groups = signed_groups(n)
        return signed_groups(n, rng.randint(0, 8 - len(groups)))

    own, end, column, end_column = span
    change = own - line
    ends = [0, 0] if column is None else [column + 1, end_column + 1]
    found = [
        [first_byte(14, steps), *signed(change), *number(end - own), *number(ends[0]), *number(ends[1])]
    ]
    if column is None:
        found.append([first_byte(13, steps), *signed(change)])
    elif own == end:
        if change == 0 and column < 80 and end_column - column < 16:
            form = column // 8
            found.append([first_byte(form, steps), (column - 8 * form) * 16 + end_column - column])
        if change in (0, 1, 2) and column < 128 and end_column < 128:
            found.append([first_byte(10 + change, steps), column, end_column])
    return found
