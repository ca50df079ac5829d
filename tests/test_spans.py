"""Point 4: what is a span."""

import unittest
from collections import namedtuple

from codespans.spans import is_span
from tests.support import MOST, NO_INTEGERS, ODD

SPANS = [
    None,
    (1, 1, 0, 0),
    (1, 1, 0, 1),
    (1, 1, 0, MOST),
    (1, 1, MOST, MOST),
    (1, MOST, 0, 0),
    (MOST, MOST, 0, 0),
    (MOST, MOST, None, None),
    (1, 1, None, None),
    (5, 6, 9, 4),
    (5, 6, MOST, 0),
    (5, 5, 4, 4),
    (1, 3, 0, MOST),
]

NO_SPANS = [
    (0, 0, 0, 0),
    (0, 1, 0, 0),
    (-1, 1, 0, 0),
    (MOST + 1, MOST + 1, 0, 0),
    (1, MOST + 1, 0, 0),
    (MOST + 1, MOST + 1, None, None),
    (0, 0, None, None),
    (2, 1, 0, 0),
    (2, 1, 0, 5),
    (2, 1, None, None),
    (MOST, MOST - 1, 0, 0),
    (1, 1, -1, 0),
    (1, 1, -2, -1),
    (1, 2, 0, -1),
    (1, 2, -1, 0),
    (1, 1, 0, MOST + 1),
    (1, 1, MOST + 1, MOST + 1),
    (1, 2, MOST + 1, 0),
    (1, 2, 0, MOST + 1),
    (1, 1, None, 0),
    (1, 1, 0, None),
    (1, 2, None, 5),
    (1, 2, 5, None),
    (1, 2, None, None),
    (5, 5, 9, 4),
    (5, 5, 1, 0),
    (10 ** 1999, 10 ** 1999, 0, 0),
    (1, 10 ** 1999, 0, 0),
    (1, 1, 0, 10 ** 1999),
    (-10 ** 1999, 1, 0, 0),
    (),
    (1,),
    (1, 1),
    (1, 1, 0),
    (1, 1, 0, 1, 1),
    (1, 1, None, None, None),
    [1, 1, 0, 1],
    [1, 1, None, None],
    [],
    0,
    1,
    True,
    False,
    "",
    "abcd",
    b"\x01\x01\x00\x01",
    {1: 1, 2: 2, 3: 3, 4: 4},
    {1, 2, 3, 4},
    range(1, 5),
    1.5,
    ODD,
    object,
    (None, None, None, None),
    ((1, 1, 0, 1),),
]


class SpansTest(unittest.TestCase):
    def test_spans(self):
        for span in SPANS:
            self.assertIs(is_span(span), True, span)

    def test_no_spans(self):
        for thing in NO_SPANS:
            self.assertIs(is_span(thing), False)

    def test_each_part_is_an_integer(self):
        for part in range(4):
            for thing in NO_INTEGERS:
                span = [1, 1, 1, 1]
                span[part] = thing
                self.assertIs(is_span(tuple(span)), False, part)

    def test_bools_are_no_integers(self):
        self.assertIs(is_span((True, 1, 0, 1)), False)
        self.assertIs(is_span((1, True, 0, 1)), False)
        self.assertIs(is_span((1, 1, False, 1)), False)
        self.assertIs(is_span((1, 1, 0, True)), False)
        self.assertIs(is_span((True, True, None, None)), False)

    def test_a_named_tuple_is_a_tuple(self):
        place = namedtuple("place", "line end_line column end_column")
        self.assertIs(is_span(place(1, 1, 0, 1)), True)
        self.assertIs(is_span(place(1, 1, 1, 0)), False)

    def test_by_name(self):
        self.assertIs(is_span(thing=None), True)
        self.assertIs(is_span(thing=[]), False)


if __name__ == "__main__":
    unittest.main()
