"""Points 5, 7 and 8: which data a table reads, and what it says of all other."""

import unittest

from codespans.errors import BadLine, BadTable
from codespans.tables import Table
from tests.support import (
    MOST, NO_INTEGERS, ODD, Case, first_byte, groups_of, random_data, random_spans, signed_groups,
)


def long_entry(steps, change, height, column, end_column):
    """A long entry; the columns as they are written, that is by one greater, and 0 for none."""
    return [
        first_byte(14, steps), *signed_groups(change), *groups_of(height),
        *groups_of(column), *groups_of(end_column),
    ]


class ReadingTest(Case):
    def check_bad(self, data, at, why, first_line=1):
        for kind in (bytes, list, tuple):
            self.check_raises(BadTable, {"at": at, "why": why}, Table, kind(data), first_line)

    def check_spans(self, data, first_line, wanted):
        for kind in (bytes, list, tuple):
            table = Table(kind(data), first_line)
            self.assertEqual(table.spans(), wanted)
            self.assertIs(type(table.data), bytes)
            self.assertEqual(table.data, bytes(data))
            self.assertEqual(table.first_line, first_line)
            self.assertEqual(table.step_count, len(wanted))

    def test_the_empty_table(self):
        self.check_spans([], 1, [])
        self.check_spans([], MOST, [])

    def test_every_short_entry(self):
        for form in range(10):
            for b in range(128):
                for steps in (1, 8):
                    column = 8 * form + b // 16
                    span = (7, 7, column, column + b % 16)
                    self.check_spans([first_byte(form, steps), b], 7, [span] * steps)

    def test_line_entries(self):
        for change in range(3):
            for steps in range(1, 9):
                for b, c in ((0, 0), (0, 127), (127, 127), (5, 80), (79, 79)):
                    span = (4 + change, 4 + change, b, c)
                    data = [first_byte(10 + change, steps), b, c]
                    self.check_spans(data, 4, [span] * steps)

    def test_bare_entries(self):
        for change in (0, 1, -1, 31, 32, -31, -32, -99, 5000):
            for steps in range(1, 9):
                line = 100 + change
                data = [first_byte(13, steps), *signed_groups(change)]
                self.check_spans(data, 100, [(line, line, None, None)] * steps)

    def test_long_entries(self):
        for steps in range(1, 9):
            self.check_spans(long_entry(steps, 0, 0, 0, 0), 3, [(3, 3, None, None)] * steps)
            self.check_spans(long_entry(steps, 0, 0, 1, 1), 3, [(3, 3, 0, 0)] * steps)
            self.check_spans(long_entry(steps, 5, 2, 9, 4), 3, [(8, 10, 8, 3)] * steps)
            self.check_spans(long_entry(steps, -2, 0, 4, 500), 3, [(1, 1, 3, 499)] * steps)

    def test_none_entries(self):
        for steps in range(1, 9):
            self.check_spans([first_byte(15, steps)], 1, [None] * steps)

    def test_the_current_line(self):
        data = [
            *[first_byte(13, 1), 4], first_byte(15, 2), *[first_byte(11, 1), 3, 4],
            *[first_byte(0, 1), 5], *long_entry(1, 1, 7, 1, 1), *[first_byte(12, 1), 1, 1],
            first_byte(15, 1), *[first_byte(13, 1), 7],
        ]
        self.check_spans(data, 10, [
            (12, 12, None, None), None, None, (13, 13, 3, 4), (13, 13, 0, 5),
            (14, 21, 0, 0), (16, 16, 1, 1), None, (13, 13, None, None),
        ])

    def test_the_current_line_may_pass_over_the_bounds_only_between_valid_lines(self):
        up = [first_byte(13, 1), *signed_groups(MOST - 1)]
        down = [first_byte(13, 1), *signed_groups(1 - MOST)]
        self.check_spans(up + down, 1, [(MOST, MOST, None, None), (1, 1, None, None)])
        self.check_bad(up + [first_byte(13, 1), 2] + down, len(up), "line")

    def test_leading_zero_groups(self):
        for n in (0, 1, 5, 63, 64, 4096):
            for padding in range(0, 9 - len(groups_of(n))):
                number = groups_of(n, padding)
                data = [first_byte(14, 1), *number, *groups_of(0), *groups_of(1), *groups_of(1)]
                line = 5000 + (n // 2 if n % 2 == 0 else -(n // 2))
                self.check_spans(data, 5000, [(line, line, 0, 0)])
                data = [first_byte(14, 1), 0, *number, *number, *number]
                column = None if n == 0 else n - 1
                if n > 0:
                    self.check_spans(data, 1, [(1, 1 + n, column, column)])
                else:
                    self.check_spans(data, 1, [(1, 1, None, None)])

    def test_nine_groups(self):
        eight = [64] * 7
        self.check_spans([first_byte(13, 1), *eight, 0], 1, [(1, 1, None, None)])
        for last in (64, 65, 127):
            self.check_bad([first_byte(13, 1), *eight, last, 0], 8, "number")
            self.check_bad([first_byte(13, 1), *eight, last], 8, "number")
            self.check_bad([first_byte(14, 1), 0, *eight, last, 0, 0], 9, "number")
            self.check_bad([first_byte(14, 1), 0, 0, *eight, last, 0], 10, "number")
            self.check_bad([first_byte(14, 1), 0, 0, 0, *eight, last], 11, "number")
        self.check_bad([first_byte(13, 1), *eight], 8, "torn")
        self.check_bad([first_byte(13, 1), *eight, 128], 8, "inside")
        self.check_bad([first_byte(13, 1), *eight, 255], 8, "inside")

    def test_the_eighth_group_counts(self):
        self.check_bad([first_byte(13, 1), *[64] * 7, 1], 0, "line")
        self.check_bad([first_byte(14, 1), 0, *[64] * 7, 1, 1, 1], 0, "line")
        self.check_bad([first_byte(14, 1), 0, 0, *[64] * 7, 1, *[64] * 7, 1], 0, "columns")
        self.check_bad([first_byte(14, 1), 0, 1, 1, *[127] * 7, 63], 0, "columns")

    def test_the_signed_number_one(self):
        self.check_spans([232, 1], 5, [(5, 5, None, None)])
        self.check_spans([232, 65, 64, 0], 5, [(5, 5, None, None)])
        self.check_spans([first_byte(14, 1), 1, 0, 0, 0], 5, [(5, 5, None, None)])

    def test_start(self):
        for byte in (0, 1, 64, 127):
            self.check_bad([byte], 0, "start")
            self.check_bad([byte, 128, 0], 0, "start")
            self.check_bad([128, 0, byte], 2, "start")
            self.check_bad([255, byte], 1, "start")
            self.check_bad([first_byte(13, 1), 2, byte], 2, "start")
            self.check_bad(long_entry(1, 0, 0, 1, 1) + [byte], 5, "start")

    def test_torn(self):
        entries = [
            [128, 0], [first_byte(9, 8), 127], [first_byte(10, 1), 0, 0], [first_byte(12, 1), 5, 9],
            [first_byte(13, 1), 0], [first_byte(13, 1), 64, 64, 0],
            long_entry(1, 0, 0, 1, 1), long_entry(8, 100, 100, 100, 100),
        ]
        for entry in entries:
            for length in range(1, len(entry)):
                self.check_bad(entry[:length], length, "torn")
                self.check_bad([255, 128, 5] + entry[:length], 3 + length, "torn")
            self.assertGreater(Table(entry, 1).step_count, 0)

    def test_inside(self):
        entries = [
            [128, 0], [first_byte(10, 1), 0, 0], [first_byte(13, 1), 64, 64, 0],
            long_entry(8, 100, 100, 100, 100),
        ]
        for entry in entries:
            for at in range(1, len(entry)):
                for byte in (128, 200, 255):
                    broken = entry[:at] + [byte] + entry[at + 1:]
                    self.check_bad(broken, at, "inside")
                    self.check_bad([128, 9] + broken, 2 + at, "inside")
                    self.check_bad(entry[:at] + [byte], at, "inside")

    def test_line(self):
        self.check_bad([first_byte(13, 1), 3], 0, "line", 1)
        self.check_spans([first_byte(13, 1), 3], 2, [(1, 1, None, None)])
        self.check_bad([first_byte(13, 1), 2], 0, "line", MOST)
        self.check_bad([first_byte(13, 1), *signed_groups(-MOST)], 0, "line", MOST)
        self.check_bad([first_byte(11, 1), 0, 0], 0, "line", MOST)
        self.check_bad([first_byte(12, 1), 0, 0], 0, "line", MOST - 1)
        self.check_spans([first_byte(12, 1), 0, 0], MOST - 2, [(MOST, MOST, 0, 0)])
        self.check_bad(long_entry(1, 0, 1, 1, 1), 0, "line", MOST)
        self.check_bad(long_entry(1, 1, 0, 1, 1), 0, "line", MOST)
        self.check_bad(long_entry(1, -1, 0, 1, 1), 0, "line", 1)
        self.check_bad(long_entry(1, -1, 5, 1, 1), 0, "line", 1)
        self.check_bad(long_entry(1, 0, MOST, 1, 1), 0, "line", 1)
        self.check_spans(long_entry(1, 0, MOST - 1, 1, 1), 1, [(1, MOST, 0, 0)])
        self.check_bad([255, 128, 0, first_byte(13, 1), 3], 3, "line", 1)

    def test_columns(self):
        self.check_bad(long_entry(1, 0, 0, 1, 0), 0, "columns")
        self.check_bad(long_entry(1, 0, 0, 0, 1), 0, "columns")
        self.check_bad(long_entry(1, 0, 2, 5, 0), 0, "columns")
        self.check_bad(long_entry(1, 0, 2, 0, 5), 0, "columns")
        self.check_bad(long_entry(1, 0, 1, 0, 0), 0, "columns")
        self.check_bad(long_entry(1, 0, 0, 5, 4), 0, "columns")
        self.check_bad(long_entry(1, 0, 0, 1, MOST + 2), 0, "columns")
        self.check_bad(long_entry(1, 0, 0, MOST + 2, MOST + 2), 0, "columns")
        self.check_bad(long_entry(1, 0, 1, MOST + 2, 1), 0, "columns")
        self.check_bad(long_entry(1, 0, 1, 1, MOST + 2), 0, "columns")
        self.check_spans(long_entry(1, 0, 1, 5, 4), 1, [(1, 2, 4, 3)])
        self.check_spans(long_entry(1, 0, 0, 1, MOST + 1), 1, [(1, 1, 0, MOST)])
        self.check_spans(long_entry(1, 0, 0, MOST + 1, MOST + 1), 1, [(1, 1, MOST, MOST)])
        for form in (10, 11, 12):
            self.check_bad([first_byte(form, 1), 1, 0], 0, "columns")
            self.check_bad([first_byte(form, 8), 127, 126], 0, "columns")
        self.check_bad([255, 255, first_byte(10, 1), 9, 8], 2, "columns")

    def test_line_comes_before_columns(self):
        self.check_bad(long_entry(1, -1, 0, 5, 4), 0, "line", 1)
        self.check_bad(long_entry(1, 0, MOST, 0, 4), 0, "line", 1)
        self.check_bad([first_byte(11, 1), 9, 8], 0, "line", MOST)

    def test_an_entry_is_read_before_it_is_checked(self):
        self.check_bad([first_byte(14, 1), 3, 0, 1], 4, "torn", 1)
        self.check_bad([first_byte(14, 1), 3, 0, 1, 200], 4, "inside", 1)
        self.check_bad([first_byte(14, 1), 3, 0, 1, *[64] * 8], 11, "number", 1)
        self.check_bad([first_byte(11, 1), 9], 2, "torn", MOST)

    def test_the_first_of_several_problems(self):
        self.check_bad([first_byte(10, 1), 9, 8, 5, 200], 0, "columns")
        self.check_bad([first_byte(13, 1), 3, 5], 0, "line")
        self.check_bad([5, first_byte(10, 1), 9, 8], 0, "start")
        self.check_bad([128, 200, 5], 1, "inside")
        self.check_bad([128, 5, 5, 128], 2, "start")
        self.check_bad([first_byte(13, 1), *[64] * 8, 200], 8, "number")
        self.check_bad([first_byte(10, 1), 9, 8, first_byte(13, 1)], 0, "columns")

    def test_no_byte_data(self):
        things = [
            None, 5, True, "", "ab", bytearray(b"\x80\x00"), memoryview(b"\x80\x00"), {128: 0},
            {128, 0}, range(128, 130), iter([128, 0]), ODD, [256], [-1], [128, 256], (128, -1),
            [True], [128, False], (128, True), [128, 0.0], [128, "0"], [128, None], [[128, 0]],
            [b"\x80"], [10 ** 1999], [-10 ** 1999], [128, ODD],
        ]
        for thing in things:
            self.check_raises(BadTable, {"at": -1, "why": "data"}, Table, thing, 1)

    def test_data_is_checked_before_the_first_line(self):
        self.check_raises(BadTable, {"at": -1, "why": "data"}, Table, "x", 0)
        self.check_raises(BadTable, {"at": -1, "why": "data"}, Table, [256], None)
        self.check_raises(BadTable, {"at": -1, "why": "data"}, Table, [5, 256], 1)

    def test_invalid_first_lines(self):
        for line in (0, -1, MOST + 1, 10 ** 1999, -10 ** 1999):
            self.check_raises(BadLine, {"line": line}, Table, b"", line)
            self.check_raises(BadLine, {"line": line}, Table, [128, 0], line)
        for thing in NO_INTEGERS:
            with self.assertRaises(BadLine) as caught:
                Table([], thing)
            self.assertIs(caught.exception.line, thing)

    def test_the_first_line_is_checked_before_the_table_is_read(self):
        self.check_raises(BadLine, {"line": 0}, Table, [5], 0)
        self.check_raises(BadLine, {"line": True}, Table, [128], True)

    def test_by_name(self):
        table = Table(first_line=5, data=[232, 1])
        self.assertEqual(table.spans(), [(5, 5, None, None)])

    def test_a_list_that_is_changed_later(self):
        data = [128, 69, 255]
        table = Table(data, 5)
        data[1] = 0
        data.append(5)
        self.assertEqual(table.data, bytes([128, 69, 255]))
        self.assertEqual(table.spans(), [(5, 5, 4, 9)] + [None] * 8)

    def test_arguments_stay_as_they_are(self):
        data = [128, 69, 255]
        Table(data, 5)
        self.assertEqual(data, [128, 69, 255])
        broken = [128, 69, 5]
        self.assertRaises(BadTable, Table, broken, 5)
        self.assertEqual(broken, [128, 69, 5])

    def test_tables_in_random_forms(self):
        for seed in range(300):
            spans = random_spans(seed)
            for first_line in (1, 5, MOST):
                data = random_data(seed, spans, first_line)
                self.assertEqual(Table(data, first_line).spans(), spans, seed)

    def test_tables_of_5000_steps(self):
        spans = [(k // 3 + 1, k // 3 + 1, k % 90, k % 90 + k % 20) for k in range(5000)]
        data = random_data(1, spans, 1)
        self.assertEqual(Table(data, 1).spans(), spans)
        self.assertEqual(Table([255] * 625, 1).spans(), [None] * 5000)
        self.check_bad(list(data) + [5], len(data), "start")


if __name__ == "__main__":
    unittest.main()
