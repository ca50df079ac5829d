"""Point 6: numbers and signed numbers."""

import unittest

from codespans.errors import BadCount
from codespans.numbers import write_number, write_signed
from tests.support import NO_INTEGERS, Case


def value_of(data):
    """The number that some bytes say, by the words of the document."""
    total = 0
    for place, group in enumerate(data):
        total += (group % 64) * 64 ** place
    return total


class NumbersTest(Case):
    def test_small_numbers(self):
        cases = {
            0: [0], 1: [1], 5: [5], 62: [62], 63: [63], 64: [64, 1], 65: [65, 1], 127: [127, 1],
            128: [64, 2], 131: [67, 2], 4095: [127, 63], 4096: [64, 64, 1],
            262143: [127, 127, 63], 262144: [64, 64, 64, 1],
        }
        for n, wanted in cases.items():
            self.assertEqual(write_number(n), bytes(wanted), n)

    def test_small_signed_numbers(self):
        cases = {
            0: [0], 1: [2], -1: [3], 2: [4], -2: [5], -3: [7], 31: [62], -31: [63],
            32: [64, 1], -32: [65, 1], 2047: [126, 63], -2047: [127, 63], 2048: [64, 64, 1],
            -2048: [65, 64, 1],
        }
        for n, wanted in cases.items():
            self.assertEqual(write_signed(n), bytes(wanted), n)

    def test_every_byte_but_the_last_tells_that_another_follows(self):
        numbers = list(range(300)) + [64 ** k + d for k in range(2, 12) for d in (-1, 0, 1)]
        for n in numbers + [10 ** 300, 10 ** 1999, 10 ** 2000 - 1, 2 ** 6600]:
            data = write_number(n)
            self.assertIs(type(data), bytes)
            self.assertEqual(value_of(data), n)
            self.assertTrue(all(64 <= byte < 128 for byte in data[:-1]))
            self.assertLess(data[-1], 64)
            self.assertTrue(data[-1] > 0 or n == 0)

    def test_signed_numbers_of_all_sizes(self):
        for n in list(range(200)) + [2 ** 31, 10 ** 300, 10 ** 1999, 10 ** 2000 - 1]:
            self.assertEqual(write_signed(n), write_number(2 * n))
            self.assertIs(type(write_signed(n)), bytes)
            if n:
                self.assertEqual(write_signed(-n), write_number(2 * n + 1))
                self.assertIs(type(write_signed(-n)), bytes)

    def test_negative_numbers(self):
        for n in (-1, -2, -64, -10 ** 1999):
            self.check_raises(BadCount, {"many": n}, write_number, n)

    def test_no_integers(self):
        for thing in NO_INTEGERS:
            for write in (write_number, write_signed):
                with self.assertRaises(BadCount) as caught:
                    write(thing)
                self.assertIs(caught.exception.many, thing)

    def test_by_name(self):
        self.assertEqual(write_number(n=64), bytes([64, 1]))
        self.assertEqual(write_signed(n=-1), bytes([3]))


if __name__ == "__main__":
    unittest.main()
