"""Points 9 and 3: what a table writes, and that it is the shortest."""

import unittest
from itertools import product

from codespans.errors import BadLine, BadSpan, BadTable
from codespans.tables import Table
from tests.support import (
    MOST, NO_INTEGERS, ODD, Case, first_byte, groups_of, random_data, random_spans, signed_groups,
)
from tests.test_spans import NO_SPANS, SPANS


class WritingTest(Case):
    def check_data(self, spans, first_line, wanted):
        for kind in (list, tuple):
            table = Table.of(kind(spans), first_line)
            self.assertEqual(list(table.data), wanted)
            self.assertIs(type(table), Table)
            self.assertIs(type(table.data), bytes)
            self.assertEqual(table.first_line, first_line)
            self.assertEqual(table.step_count, len(spans))
            self.assertEqual(table.spans(), list(spans))

    def test_examples(self):
        self.check_data([(5, 5, 4, 9)], 5, [128, 69])
        self.check_data([None] * 10, 1, [255, 249])
        self.check_data([(3, 3, 0, 130)], 1, [240, 4, 0, 1, 67, 2])
        self.check_data([(2, 2, None, None)], 5, [232, 7])

    def test_no_spans_at_all(self):
        self.check_data([], 1, [])
        self.check_data([], MOST, [])

    def test_lengths_of_runs(self):
        for steps in (1, 2, 7, 8, 9, 15, 16, 17, 24, 25):
            cuts = [8] * (steps // 8) + ([steps % 8] if steps % 8 else [])
            self.check_data([None] * steps, 1, [first_byte(15, cut) for cut in cuts])
            short = [byte for cut in cuts for byte in (first_byte(1, cut), 16 * 2 + 5)]
            self.check_data([(1, 1, 10, 15)] * steps, 1, short)
            bare = [byte for cut in cuts for byte in (first_byte(13, cut), 0)]
            bare[1] = 3
            self.check_data([(8, 8, None, None)] * steps, 9, bare)
            line = [byte for cut in cuts for byte in (first_byte(10, cut), 100, 120)]
            line[0] = first_byte(12, cuts[0])
            self.check_data([(8, 8, 100, 120)] * steps, 6, line)
            long = []
            for at, cut in enumerate(cuts):
                long += [first_byte(14, cut), 6 if at == 0 else 0, 1, 2, 3]
            self.check_data([(8, 9, 1, 2)] * steps, 5, long)

    def test_a_run_may_go_on_in_a_shorter_form(self):
        data = [first_byte(11, 8), 3, 5, first_byte(0, 1), 3 * 16 + 2]
        self.check_data([(2, 2, 3, 5)] * 9, 1, data)
        data = [first_byte(14, 8), 6, 0, 4, 6, first_byte(0, 8), 50, first_byte(0, 1), 50]
        self.check_data([(4, 4, 3, 5)] * 17, 1, data)

    def test_runs_side_by_side(self):
        spans = [None] * 9 + [(1, 1, 0, 1)] * 2 + [None] + [(1, 1, 0, 1)] + [(2, 2, 0, 1)]
        data = [255, 248, first_byte(0, 2), 1, 248, 128, 1, first_byte(11, 1), 0, 1]
        self.check_data(spans, 1, data)

    def test_the_bounds_of_short(self):
        self.check_data([(1, 1, 0, 0)], 1, [128, 0])
        self.check_data([(1, 1, 79, 79)], 1, [first_byte(9, 1), 112])
        self.check_data([(1, 1, 79, 94)], 1, [first_byte(9, 1), 127])
        self.check_data([(1, 1, 0, 15)], 1, [128, 15])
        self.check_data([(1, 1, 7, 8)], 1, [128, 113])
        self.check_data([(1, 1, 8, 9)], 1, [first_byte(1, 1), 1])
        self.check_data([(1, 1, 80, 80)], 1, [first_byte(10, 1), 80, 80])
        self.check_data([(1, 1, 79, 95)], 1, [first_byte(10, 1), 79, 95])
        self.check_data([(1, 1, 0, 16)], 1, [first_byte(10, 1), 0, 16])
        self.check_data([(2, 2, 0, 0)], 1, [first_byte(11, 1), 0, 0])
        self.check_data([(1, 1, 0, 0)], 2, [first_byte(14, 1), 3, 0, 1, 1])
        self.check_data([(1, 2, 0, 0)], 1, [first_byte(14, 1), 0, 1, 1, 1])

    def test_the_bounds_of_line(self):
        self.check_data([(1, 1, 127, 127)], 1, [first_byte(10, 1), 127, 127])
        self.check_data([(1, 1, 0, 127)], 1, [first_byte(10, 1), 0, 127])
        self.check_data([(1, 1, 0, 128)], 1, [first_byte(14, 1), 0, 0, 1, 65, 2])
        self.check_data([(1, 1, 127, 128)], 1, [first_byte(14, 1), 0, 0, 64, 2, 65, 2])
        self.check_data([(1, 1, 128, 128)], 1, [first_byte(14, 1), 0, 0, 65, 2, 65, 2])
        self.check_data([(3, 3, 127, 127)], 1, [first_byte(12, 1), 127, 127])
        self.check_data([(3, 3, 9, 10)], 1, [first_byte(12, 1), 9, 10])
        self.check_data([(4, 4, 9, 10)], 1, [first_byte(14, 1), 6, 0, 10, 11])
        self.check_data([(1, 1, 9, 10)], 2, [first_byte(14, 1), 3, 0, 10, 11])
        self.check_data([(2, 3, 9, 10)], 1, [first_byte(14, 1), 2, 1, 10, 11])
        self.check_data([(1, 2, 100, 110)], 1, [first_byte(14, 1), 0, 1, 65 + 36, 1, 64 + 47, 1])

    def test_several_lines_with_an_end_column_before_the_column(self):
        self.check_data([(1, 2, 9, 4)], 1, [first_byte(14, 1), 0, 1, 10, 5])
        self.check_data([(1, 2, 100, 0)], 1, [first_byte(14, 1), 0, 1, 101, 1, 1])
        self.check_data([(1, 2, 20, 9), (1, 1, 20, 29)], 1, [
            first_byte(14, 1), 0, 1, 21, 10, first_byte(2, 1), 73,
        ])

    def test_the_bounds_of_bare(self):
        for change in (0, 1, 2, 3, 31, 32, 2047, 2048, -1, -31, -32, -2047, -2048):
            line = 5000 + change
            data = [first_byte(13, 1), *signed_groups(change)]
            self.check_data([(line, line, None, None)], 5000, data)

    def test_the_bounds_of_numbers_in_long(self):
        for number in (0, 1, 62, 63, 64, 4094, 4095, 4096, MOST - 1):
            data = [first_byte(14, 1), 0, *groups_of(number), 1, 1]
            if number:
                self.check_data([(1, 1 + number, 0, 0)], 1, data)
            data = [first_byte(14, 1), 0, 1, *groups_of(number + 1), 1]
            self.check_data([(1, 2, number, 0)], 1, data)
            data = [first_byte(14, 1), 0, 1, 1, *groups_of(number + 1)]
            self.check_data([(1, 2, 0, number)], 1, data)
        self.check_data([(1, 1, MOST, MOST)], 1, [first_byte(14, 1), 0, 0] + groups_of(MOST + 1) * 2)

    def test_the_bounds_of_lines(self):
        far = signed_groups(MOST - 1)
        self.check_data([(MOST, MOST, 0, 1)], 1, [first_byte(14, 1), *far, 0, 1, 2])
        self.check_data([(MOST, MOST, None, None)], 1, [first_byte(13, 1), *far])
        self.check_data([(MOST, MOST, 0, 1)], MOST, [128, 1])
        self.check_data([(1, 1, 0, 1)], 1, [128, 1])
        back = signed_groups(1 - MOST)
        self.check_data([(1, 1, 0, 1)], MOST, [first_byte(14, 1), *back, 0, 1, 2])
        self.check_data([(1, 1, None, None)], MOST, [first_byte(13, 1), *back])
        self.check_data([(1, MOST, 0, 1)], 1, [first_byte(14, 1), 0, *groups_of(MOST - 1), 1, 2])
        self.check_data([(MOST, MOST, 0, 1)], MOST - 2, [first_byte(12, 1), 0, 1])
        self.check_data([(1, 1, 0, 1), (MOST, MOST, 0, 1), (1, 1, 0, 1)], 1, [
            128, 1, first_byte(14, 1), *far, 0, 1, 2, first_byte(14, 1), *back, 0, 1, 2,
        ])

    def test_no_position_leaves_the_current_line(self):
        self.check_data([(7, 7, 0, 1), None, (7, 7, 0, 1), None, (8, 8, 0, 1)], 7, [
            128, 1, 248, 128, 1, 248, first_byte(11, 1), 0, 1,
        ])

    def test_the_current_line_is_the_line_and_not_the_end_line(self):
        self.check_data([(7, 9, 0, 1), (7, 7, 0, 1), (9, 9, 0, 1)], 7, [
            first_byte(14, 1), 0, 2, 1, 2, 128, 1, first_byte(12, 1), 0, 1,
        ])

    def test_every_span_alone(self):
        for span in SPANS:
            for first_line in (1, 2, MOST):
                self.assertEqual(Table.of([span], first_line).spans(), [span])

    def test_the_first_element_that_is_no_span(self):
        good = (1, 1, 0, 1)
        for thing in NO_SPANS:
            self.check_raises(BadSpan, {"at": 0}, Table.of, [thing], 1)
            self.check_raises(BadSpan, {"at": 2}, Table.of, [good, None, thing, good], 1)
            self.check_raises(BadSpan, {"at": 1}, Table.of, (good, thing, thing), 1)

    def test_no_list(self):
        for thing in (None, 5, True, "", "ab", b"", b"ab", {}, set(), range(2), iter([]), ODD):
            self.check_raises(BadSpan, {"at": -1}, Table.of, thing, 1)
            self.check_raises(BadSpan, {"at": -1}, Table.of, thing, 0)
            self.check_raises(BadSpan, {"at": -1}, Table.of, thing, ODD)

    def test_a_span_in_place_of_a_list_of_spans(self):
        self.check_raises(BadSpan, {"at": 0}, Table.of, (1, 1, 0, 1), 1)

    def test_invalid_first_lines(self):
        for line in (0, -1, MOST + 1, 10 ** 1999, -10 ** 1999):
            self.check_raises(BadLine, {"line": line}, Table.of, [], line)
            self.check_raises(BadLine, {"line": line}, Table.of, [None], line)
        for thing in NO_INTEGERS:
            with self.assertRaises(BadLine) as caught:
                Table.of([(1, 1, 0, 1)], thing)
            self.assertIs(caught.exception.line, thing)

    def test_spans_are_checked_before_the_first_line(self):
        self.check_raises(BadSpan, {"at": 0}, Table.of, [5], 0)
        self.check_raises(BadSpan, {"at": 1}, Table.of, [None, ODD], None)

    def test_by_name(self):
        self.assertEqual(list(Table.of(first_line=5, spans=[(5, 5, 4, 9)]).data), [128, 69])

    def test_a_list_that_is_changed_later(self):
        spans = [None, (1, 1, 0, 1)]
        table = Table.of(spans, 1)
        spans[0] = (9, 9, 9, 9)
        spans.append(None)
        self.assertEqual(table.spans(), [None, (1, 1, 0, 1)])
        self.assertEqual(table.step_count, 2)

    def test_arguments_stay_as_they_are(self):
        spans = [None, (1, 1, 0, 1), (1, 1, 0, 1)]
        Table.of(spans, 1)
        self.assertEqual(spans, [None, (1, 1, 0, 1), (1, 1, 0, 1)])
        spans.append(5)
        self.assertRaises(BadSpan, Table.of, spans, 1)
        self.assertEqual(spans, [None, (1, 1, 0, 1), (1, 1, 0, 1), 5])

    def test_what_is_written_is_read_back_and_is_the_shortest(self):
        for seed in range(400):
            spans = random_spans(seed)
            for first_line in (1, 3, MOST):
                table = Table.of(spans, first_line)
                self.assertEqual(table.spans(), spans)
                self.assertEqual(Table(table.data, first_line).spans(), spans)
                self.assertEqual(Table(list(table.data), first_line).data, table.data)
                for other_seed in range(3):
                    other = random_data(other_seed, spans, first_line)
                    self.assertLessEqual(len(table.data), len(other))

    def test_no_data_of_a_few_bytes_is_shorter(self):
        firsts = [128, 135, 136, 207, 208, 215, 216, 224, 231, 232, 239, 240, 248, 255]
        further = [0, 1, 2, 3, 15, 16, 63, 64, 65, 127]
        some = firsts + further
        read = 0
        for length in range(5):
            for data in product(some, repeat=length):
                if length > 1 and data[0] < 128:
                    continue
                try:
                    table = Table(data, 2)
                except BadTable:
                    continue
                read += 1
                self.assertLessEqual(len(Table.of(table.spans(), 2).data), length, data)
        self.assertGreater(read, 4000)

    def test_lists_of_5000_steps(self):
        alike = Table.of([(9, 9, 0, 1)] * 5000, 9)
        self.assertEqual(alike.data, bytes([first_byte(0, 8), 1]) * 625)
        self.assertEqual(alike.step_count, 5000)
        far = [(1 + (k % 2) * (MOST - 1), MOST, k, MOST) for k in range(5000)]
        table = Table.of(far, 1)
        self.assertEqual(table.spans(), far)
        self.check_raises(BadSpan, {"at": 4999}, Table.of, far[:4999] + [0], 1)


if __name__ == "__main__":
    unittest.main()
