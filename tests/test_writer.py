"""Point 30: a writer gives the table of all spans that were added."""

import unittest

from codespans.coders import Writer
from codespans.errors import BadCount, BadLine, BadSpan
from codespans.ranges import ranges_of
from codespans.tables import Table
from tests.support import MOST, NO_INTEGERS, ODD, Case, random_spans
from tests.test_spans import NO_SPANS

A = (5, 5, 4, 9)
B = (5, 6, 4, 9)
C = (9, 9, None, None)
NO_COUNTS = [0, -1, 5001, 10 ** 1999, -10 ** 1999, *NO_INTEGERS]


class WriterCase(Case):
    def check_writer(self, writer, spans, first_line):
        table = writer.table()
        self.assertIs(type(table), Table)
        self.assertEqual(table.spans(), spans)
        self.assertEqual(table.first_line, first_line)
        self.assertEqual(table.data, Table.of(spans, first_line).data)
        self.assertEqual(writer.step_count, len(spans))
        self.assertIs(type(writer.step_count), int)


class WriterTest(WriterCase):
    def test_nothing_added(self):
        for first_line in (1, 5, MOST):
            writer = Writer(first_line)
            self.assertIn("step_count", vars(writer))
            self.check_writer(writer, [], first_line)

    def test_adds_of_other_spans(self):
        writer = Writer(5)
        spans = []
        for span in (A, B, None, C, A, None):
            self.assertIsNone(writer.add(span, 1))
            spans.append(span)
            self.check_writer(writer, spans, 5)

    def test_adds_of_equal_spans_are_written_together(self):
        for span in (A, None, C, B):
            for first in (1, 7, 8, 9):
                for second in (1, 7, 8, 9):
                    writer = Writer(5)
                    writer.add(span, first)
                    writer.add(span, second)
                    self.check_writer(writer, [span] * (first + second), 5)
        writer = Writer(5)
        for _ in range(8):
            writer.add(A, 1)
        self.assertEqual(list(writer.table().data), [135, 69])

    def test_numbers_of_steps(self):
        for span in (A, None, C):
            for steps in (1, 8, 9, 5000):
                writer = Writer(3)
                self.assertIsNone(writer.add(span, steps))
                self.check_writer(writer, [span] * steps, 3)
        writer = Writer(3)
        for k in range(5000):
            writer.add(None if k % 3 == 0 else (k + 1, k + 1, 0, 1), 1)
        self.check_writer(writer, [None if k % 3 == 0 else (k + 1, k + 1, 0, 1) for k in range(5000)], 3)

    def test_a_table_in_the_middle_and_twice(self):
        writer = Writer(5)
        writer.add(A, 3)
        early = writer.table()
        self.check_writer(writer, [A] * 3, 5)
        self.check_writer(writer, [A] * 3, 5)
        writer.add(A, 6)
        self.check_writer(writer, [A] * 9, 5)
        writer.add(None, 1)
        self.check_writer(writer, [A] * 9 + [None], 5)
        self.assertEqual(early.spans(), [A] * 3)
        self.assertEqual(early.data, bytes([130, 69]))

    def test_two_writers_by_turns(self):
        first, second = Writer(5), Writer(90)
        first.add(A, 2)
        second.add(B, 1)
        first.add(None, 1)
        second.add(B, 8)
        self.check_writer(first, [A, A, None], 5)
        self.check_writer(second, [B] * 9, 90)

    def test_random_tables(self):
        for seed in range(100):
            spans = random_spans(seed)
            for first_line in (1, 7, MOST):
                by_runs, by_steps = Writer(first_line), Writer(first_line)
                for start, end, span in ranges_of(spans):
                    by_runs.add(span, end - start)
                for span in spans:
                    by_steps.add(span, 1)
                self.check_writer(by_runs, spans, first_line)
                self.check_writer(by_steps, spans, first_line)

    def test_by_name_in_any_order(self):
        writer = Writer(first_line=5)
        writer.add(steps=2, span=A)
        writer.add(B, steps=1)
        writer.add(span=None, steps=1)
        self.check_writer(writer, [A, A, B, None], 5)


class WriterErrorsTest(WriterCase):
    def setUp(self):
        self.writer = Writer(5)
        self.writer.add(A, 2)

    def check_unchanged(self):
        self.check_writer(self.writer, [A, A], 5)

    def test_invalid_first_lines(self):
        for thing in (0, -1, MOST + 1, 10 ** 1999, -10 ** 1999, *NO_INTEGERS):
            self.check_refuses(BadLine, "line", thing, Writer, thing)
            self.check_refuses(BadLine, "line", thing, Writer, first_line=thing)

    def test_what_is_no_span(self):
        for thing in NO_SPANS:
            for steps in (1, 5000):
                self.check_raises(BadSpan, {"at": 0}, self.writer.add, thing, steps)
                self.check_raises(BadSpan, {"at": 0}, self.writer.add, steps=steps, span=thing)
        self.check_unchanged()

    def test_what_is_no_number_of_steps(self):
        for thing in NO_COUNTS:
            for span in (A, None, C):
                self.check_refuses(BadCount, "many", thing, self.writer.add, span, thing)
                self.check_refuses(BadCount, "many", thing, self.writer.add, steps=thing, span=span)
        self.check_unchanged()

    def test_both_at_once(self):
        for thing in (0, (0, 0, 0, 0), [5, 5, 4, 9], ODD):
            for steps in NO_COUNTS:
                self.check_raises(BadSpan, {"at": 0}, self.writer.add, thing, steps)
                self.check_raises(BadSpan, {"at": 0}, self.writer.add, steps=steps, span=thing)
        self.check_unchanged()

    def test_a_writer_goes_on_behind_an_error(self):
        self.assertRaises(BadSpan, self.writer.add, (0, 0, 0, 0), 1)
        self.assertRaises(BadCount, self.writer.add, B, 0)
        self.writer.add(A, 1)
        self.check_writer(self.writer, [A] * 3, 5)


if __name__ == "__main__":
    unittest.main()
