"""Point 13: equal tables, the first difference, the shortest table, another first line."""

import unittest

from codespans.errors import BadLine
from codespans.tables import Table, difference, rebased, shortest
from tests.support import MOST, NO_INTEGERS, ODD, Case, random_data, random_spans

A = (5, 5, 4, 9)
B = (5, 6, 4, 9)


class EqualTest(Case):
    def test_equal_spans(self):
        pairs = [
            (Table.of([], 1), Table.of([], 9)),
            (Table.of([A, None], 5), Table.of([A, None], 5)),
            (Table.of([A, A, B], 5), Table.of([A, A, B], 1)),
            (Table([128, 69, 128, 69], 5), Table([129, 69], 5)),
            (Table([208, 4, 9], 5), Table([128, 69], 5)),
            (Table([248, 248], 1), Table([249], MOST)),
            (Table([232, 1], 5), Table([232, 64, 0], 5)),
        ]
        for a, b in pairs:
            self.assertIs(a == b, True)
            self.assertIs(b == a, True)
            self.assertIs(a != b, False)
            self.assertIs(difference(a, b), None)

    def test_other_spans(self):
        pairs = [
            ([], [None]), ([A], [B]), ([A], [A, A]), ([A, None], [None, A]), ([A], [None]),
            ([A], [(5, 5, 4, 8)]), ([A], [(5, 5, 3, 9)]), ([A], [(6, 6, 4, 9)]), ([A], [(5, 5, None, None)]),
        ]
        for a, b in pairs:
            self.assertIs(Table.of(a, 5) == Table.of(b, 5), False)
            self.assertIs(Table.of(b, 5) == Table.of(a, 5), False)
            self.assertIs(Table.of(a, 5) != Table.of(b, 5), True)

    def test_the_same_bytes_with_other_first_lines(self):
        self.assertIs(Table([128, 69], 5) == Table([128, 69], 6), False)
        self.assertIs(Table([255], 5) == Table([255], 6), True)

    def test_no_other_object_is_equal(self):
        class Everything:
            def __eq__(self, other):
                return True

        table = Table.of([A], 5)
        others = [None, 0, True, "", table.data, [A], (A,), table.spans(), {}, ODD, Table, Everything()]
        for other in others:
            self.assertIs(table == other, False)
            self.assertIs(table != other, True)
        self.assertIs([A] == table, False)
        self.assertIs(Table(b"", 1) == [], False)

    def test_random_tables(self):
        for seed in range(100):
            spans = random_spans(seed)
            a = Table(random_data(seed, spans, 1), 1)
            b = Table(random_data(seed + 1, spans, 7), 7)
            self.assertTrue(a == b)
            self.assertIs(difference(a, b), None)
            for step in range(len(spans)):
                changed = spans[:step] + [(88, 88, 8, 8)] + spans[step + 1:]
                self.assertFalse(a == Table.of(changed, 1))


class DifferenceTest(Case):
    def check(self, a, b, wanted):
        for first_line in (1, 5, 900):
            first, second = Table.of(a, first_line), Table.of(b, 5)
            for got in (difference(first, second), difference(second, first), difference(b=first, a=second)):
                self.assertEqual(got, wanted)
                self.assertIs(type(got), type(wanted))

    def test_difference(self):
        self.check([], [], None)
        self.check([A, B], [A, B], None)
        self.check([A], [B], 0)
        self.check([A, B, None], [A, None, None], 1)
        self.check([A] * 20, [A] * 19 + [B], 19)
        self.check([A] * 20 + [B, A], [A] * 20 + [None], 20)
        self.check([None, A], [A, None], 0)

    def test_one_is_the_beginning_of_the_other(self):
        self.check([], [None], 0)
        self.check([], [A] * 30, 0)
        self.check([A], [A, A], 1)
        self.check([A] * 8, [A] * 17, 8)
        self.check([A, None], [A, None, B, B], 2)

    def test_a_difference_before_the_end_of_the_shorter(self):
        self.check([A, B], [A, A, A, A], 1)

    def test_5000_steps(self):
        spans = [(k + 1, k + 1, 0, 1) for k in range(5000)]
        self.check(spans, spans, None)
        self.check(spans, spans[:4999], 4999)
        self.check(spans, spans[:4999] + [None], 4999)


class ShortestTest(Case):
    def test_shortest(self):
        table = Table([208, 4, 9, 128, 69, 248, 248, 232, 65, 64, 0], 5)
        short = shortest(table)
        self.assertEqual(list(short.data), [129, 69, 249, 232, 0])
        self.assertEqual(short.first_line, 5)
        self.assertTrue(short == table)
        self.assertEqual(list(table.data), [208, 4, 9, 128, 69, 248, 248, 232, 65, 64, 0])

    def test_rebased(self):
        table = Table([208, 4, 9, 128, 69], 5)
        self.assertEqual(list(rebased(table, 5).data), [129, 69])
        self.assertEqual(list(rebased(table, 4).data), [217, 4, 9])
        self.assertEqual(list(rebased(table, 6).data), [241, 3, 0, 5, 10])
        self.assertEqual(rebased(table, 6).first_line, 6)
        self.assertTrue(rebased(table, 6) == table)
        self.assertEqual((table.first_line, list(table.data)), (5, [208, 4, 9, 128, 69]))

    def test_the_empty_table(self):
        self.assertEqual((shortest(Table(b"", 7)).data, shortest(Table(b"", 7)).first_line), (b"", 7))
        self.assertEqual(rebased(Table(b"", 7), 8).first_line, 8)

    def test_by_name(self):
        table = Table.of([A], 1)
        self.assertEqual(shortest(table=table).data, table.data)
        self.assertEqual(rebased(first_line=5, table=table).data, bytes([128, 69]))

    def test_random_tables(self):
        for seed in range(100):
            spans = random_spans(seed)
            table = Table(random_data(seed, spans, 4), 4)
            self.assertEqual(shortest(table).data, Table.of(spans, 4).data)
            self.assertEqual(shortest(table).first_line, 4)
            for line in (1, 4, 5, MOST):
                self.assertEqual(rebased(table, line).data, Table.of(spans, line).data)
                self.assertEqual(rebased(table, line).first_line, line)

    def test_invalid_first_lines(self):
        table = Table.of([A], 5)
        for line in (0, -1, MOST + 1, 10 ** 1999):
            self.check_raises(BadLine, {"line": line}, rebased, table, line)
        for thing in NO_INTEGERS:
            with self.assertRaises(BadLine) as caught:
                rebased(table, thing)
            self.assertIs(caught.exception.line, thing)
        self.assertEqual((table.first_line, list(table.data)), (5, [128, 69]))


if __name__ == "__main__":
    unittest.main()
