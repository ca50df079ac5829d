"""Point 2: the error classes."""

import unittest

from codespans import errors
from codespans.errors import (
    BadCount, BadLine, BadSpan, BadStep, BadTable, BadText, TableError, TooLong,
)
from tests.support import ODD

PARAMETERS = {
    BadTable: ["at", "why"],
    BadLine: ["line"],
    BadSpan: ["at"],
    BadStep: ["step"],
    BadCount: ["many"],
    BadText: ["at"],
    TooLong: [],
}


class ErrorsTest(unittest.TestCase):
    def test_bases(self):
        self.assertEqual(TableError.__bases__, (ValueError,))
        for error in PARAMETERS:
            self.assertEqual(error.__bases__, (TableError,), error)

    def test_each_is_none_of_the_others(self):
        for error, names in PARAMETERS.items():
            made = error(*[3] * len(names))
            self.assertIsInstance(made, TableError)
            self.assertIsInstance(made, ValueError)
            for other in PARAMETERS:
                self.assertEqual(isinstance(made, other), other is error, (error, other))

    def test_arguments_by_position_and_by_name(self):
        for error, names in PARAMETERS.items():
            for value in (-1, 0, 10 ** 2000, "x", None, [1], ODD):
                values = [(name, value) for name in names]
                by_position = error(*[value for _, value in values])
                by_name = error(**dict(values))
                for name in names:
                    self.assertIs(getattr(by_position, name), value)
                    self.assertIs(getattr(by_name, name), value)

    def test_two_arguments_keep_their_places(self):
        made = BadTable(4, "torn")
        self.assertEqual((made.at, made.why), (4, "torn"))
        made = BadTable(why="line", at=0)
        self.assertEqual((made.at, made.why), (0, "line"))

    def test_missing_and_surplus_arguments(self):
        for error, names in PARAMETERS.items():
            if names:
                self.assertRaises(TypeError, error)
                self.assertRaises(TypeError, error, *[1] * (len(names) + 1))

    def test_nothing_else_is_an_error_of_the_module(self):
        found = {name for name in vars(errors) if isinstance(getattr(errors, name), type)}
        self.assertEqual(found, {error.__name__ for error in PARAMETERS} | {"TableError"})

    def test_can_be_raised_and_caught(self):
        for error, names in PARAMETERS.items():
            for base in (error, TableError, ValueError):
                with self.assertRaises(base):
                    raise error(*[1] * len(names))


if __name__ == "__main__":
    unittest.main()
