"""Point 18: tables after an edit of the source."""

import random
import unittest

from codespans.edits import moved
from codespans.errors import BadCount, BadLine
from codespans.tables import Table
from tests.support import MOST, NO_INTEGERS, ODD, Case, random_data, random_spans

NO_COUNTS = [-1, -2, MOST + 1, 10 ** 1999, -10 ** 1999, *NO_INTEGERS]
NO_LINES = [0, -1, MOST + 1, 10 ** 1999, -10 ** 1999, *NO_INTEGERS]


def moved_by_hand(span, line, removed, added):
    """A span by the words of the document, for small numbers, all removed lines listed."""
    if span is None:
        return None
    gone = list(range(line, line + removed))
    if any(own in gone for own in range(span[0], min(span[1], 99) + 1)):
        return None
    ends = [own + added - removed if own >= line + removed else own for own in span[:2]]
    return (*ends, *span[2:])


class MovedTest(Case):
    def check_moved(self, spans, edit, wanted, first_line=1):
        table = Table.of(spans, first_line)
        new = moved(table, *edit)
        self.assertIs(type(new), Table)
        self.assertEqual(new.spans(), wanted)
        self.assertEqual(new.first_line, first_line)
        self.assertEqual(new.data, Table.of(wanted, first_line).data)
        self.assertEqual(table.spans(), spans)

    def test_the_example(self):
        self.assertEqual(moved(Table.of([(1, 3, 0, 1)], 1), 2, 0, 5).spans(), [(1, 8, 0, 1)])

    def test_ahead_of_within_and_behind_one_line(self):
        spans = [(5, 5, 4, 9), (5, 5, None, None), None]
        self.check_moved(spans, (3, 2, 7), [(10, 10, 4, 9), (10, 10, None, None), None], 5)
        self.check_moved(spans, (5, 0, 1), [(6, 6, 4, 9), (6, 6, None, None), None], 5)
        self.check_moved(spans, (4, 1, 0), [(4, 4, 4, 9), (4, 4, None, None), None], 5)
        self.check_moved(spans, (5, 1, 0), [None] * 3, 5)
        self.check_moved(spans, (5, 1, 1), [None] * 3, 5)
        self.check_moved(spans, (5, 9, 9), [None] * 3, 5)
        self.check_moved(spans, (4, 2, 2), [None] * 3, 5)
        self.check_moved(spans, (1, MOST, 0), [None] * 3, 5)
        self.check_moved(spans, (6, 0, 9), spans, 5)
        self.check_moved(spans, (6, 9, 0), spans, 5)
        self.check_moved(spans, (MOST, MOST, MOST), spans, 5)

    def test_spans_over_several_lines(self):
        span = (3, 6, 8, 2)
        for edit, wanted in [
            ((1, 0, 2), (5, 8, 8, 2)), ((1, 2, 0), (1, 4, 8, 2)), ((2, 1, 1), span), ((3, 0, 2), (5, 8, 8, 2)),
            ((4, 0, 2), (3, 8, 8, 2)), ((6, 0, 2), (3, 8, 8, 2)), ((7, 0, 2), span), ((7, 1, 0), span),
            ((3, 1, 1), None), ((4, 1, 1), None), ((4, 2, 2), None), ((5, 1, 0), None), ((6, 1, 4), None),
            ((1, 3, 3), None), ((6, 7, 0), None), ((2, 5, 0), None), ((2, 9, 9), None), ((1, MOST, MOST), None),
            ((2, 0, 0), span), ((4, 0, 0), span),
        ]:
            self.check_moved([span, None, (9, 9, None, None)], edit, [
                wanted, None, moved_by_hand((9, 9, None, None), edit[0], min(edit[1], 99), edit[2]),
            ])

    def test_equal_numbers_of_lines(self):
        spans = [(2, 2, 0, 1), (4, 4, 0, 1), (5, 7, 0, 1), (8, 8, None, None)]
        self.check_moved(spans, (4, 1, 1), [spans[0], None, *spans[2:]])
        self.check_moved(spans, (6, 2, 2), [*spans[:2], None, spans[3]])
        self.check_moved(spans, (3, 1, 1), spans)
        self.check_moved(spans, (2, 0, 0), spans)

    def test_the_first_line_stays(self):
        self.check_moved([(5, 5, 0, 1)], (1, 4, 0), [(1, 1, 0, 1)], 5)
        self.check_moved([(5, 5, 0, 1)], (1, 0, 4), [(9, 9, 0, 1)], MOST)
        self.check_moved([], (1, 1, 1), [], 8)

    def test_the_result_is_the_shortest_table(self):
        table = Table([128, 69, 208, 4, 9, 240, 8, 0, 64, 0, 0], 5)
        for edit in ((1, 0, 0), (10, 3, 4), (6, 2, 2)):
            self.assertEqual(moved(table, *edit).data, Table.of(table.spans(), 5).data)
        self.assertEqual(list(moved(table, 1, 1, 1).data), [129, 69, 232, 8])
        neighbours = Table.of([(2, 2, 0, 1), None, (3, 3, 0, 1)], 2)
        self.assertEqual(list(moved(neighbours, 2, 2, 0).data), [250])

    def test_by_name_in_any_order(self):
        table = Table.of([(1, 3, 0, 1)], 1)
        self.assertEqual(moved(added=5, removed=0, line=2, table=table).spans(), [(1, 8, 0, 1)])
        self.assertEqual(moved(table, 2, added=0, removed=1).spans(), [None])

    def test_random_tables(self):
        rng = random.Random(18)
        for seed in range(80):
            spans = [span for span in random_spans(seed) if span is None or span[1] < 90]
            for table in (Table.of(spans, 4), Table(random_data(seed, spans, 4), 4)):
                for _ in range(12):
                    edit = (rng.randint(1, 12), rng.randint(0, 5), rng.randint(0, 5))
                    new = moved(table, *edit)
                    wanted = [moved_by_hand(span, *edit) for span in spans]
                    self.assertEqual(new.spans(), wanted)
                    self.assertEqual(new.data, Table.of(wanted, 4).data)
                self.assertEqual(table.spans(), spans)

    def test_5000_steps(self):
        spans = [(k + 1, k + 1, 0, k % 30) for k in range(5000)]
        wanted = spans[:2000] + [None] * 10 + [(k + 8, k + 8, 0, k % 30) for k in range(2010, 5000)]
        self.check_moved(spans, (2001, 10, 17), wanted)


class BoundsTest(Case):
    def test_new_lines_at_most(self):
        table = Table.of([(5, 5, 0, 1), (5, 6, 0, 1)], 5)
        self.assertEqual(moved(table, 1, 0, MOST - 6).spans(), [(MOST - 1, MOST - 1, 0, 1), (MOST - 1, MOST, 0, 1)])
        self.check_raises(BadLine, {"line": MOST + 1}, moved, table, 1, 0, MOST - 5)
        self.assertEqual(moved(table, 1, 4, MOST - 2).spans(), [(MOST - 1, MOST - 1, 0, 1), (MOST - 1, MOST, 0, 1)])
        self.check_raises(BadLine, {"line": MOST + 1}, moved, table, 1, 4, MOST - 1)
        self.check_raises(BadLine, {"line": MOST + 5}, moved, table, 1, 0, MOST)

    def test_the_first_one_in_the_order_of_the_steps(self):
        spans = [None, (3, 3, 0, 0), (1, 9, 0, 0), (8, 10, 0, 0), (12, 12, None, None)]
        table = Table.of(spans, 1)
        for added, wanted in [
            (MOST - 2, MOST + 1), (MOST - 7, MOST + 2), (MOST - 8, MOST + 1), (MOST - 9, MOST + 1),
            (MOST - 11, MOST + 1),
        ]:
            self.check_raises(BadLine, {"line": wanted}, moved, table, 2, 0, added)
        self.assertEqual(moved(table, 2, 0, MOST - 12).span_at(4), (MOST, MOST, None, None))
        self.check_raises(BadLine, {"line": MOST + 3}, moved, table, 1, 0, MOST)

    def test_line_before_end_line(self):
        table = Table.of([(5, 9, 0, 0)], 1)
        self.check_raises(BadLine, {"line": MOST + 2}, moved, table, 1, 0, MOST - 3)
        self.check_raises(BadLine, {"line": MOST + 4}, moved, table, 1, 0, MOST - 5)
        self.check_raises(BadLine, {"line": MOST + 6}, moved, table, 6, 0, MOST - 3)
        table = Table.of([(1, 1, 0, 0), (2, MOST, 0, 0), (MOST, MOST, 0, 0)], 1)
        self.check_raises(BadLine, {"line": MOST + 1}, moved, table, 3, 0, 1)
        self.check_raises(BadLine, {"line": 2 * MOST}, moved, table, 3, 0, MOST)

    def test_removed_spans_and_those_ahead_are_never_above(self):
        table = Table.of([(MOST, MOST, 0, 0), (4, MOST, 0, 0), (2, 2, 0, 0)], 1)
        self.assertEqual(moved(table, MOST, 1, MOST).spans(), [None, None, (2, 2, 0, 0)])
        self.assertEqual(moved(table, MOST, MOST, MOST).spans(), [None, None, (2, 2, 0, 0)])
        self.assertEqual(moved(table, 3, MOST, 0).spans(), [None, None, (2, 2, 0, 0)])
        self.assertEqual(moved(table, 3, 1, 1).spans(), table.spans())

    def test_most_lines(self):
        table = Table.of([(MOST, MOST, 0, 0)], 1)
        self.assertEqual(moved(table, 1, MOST - 1, 0).spans(), [(1, 1, 0, 0)])
        self.assertEqual(moved(table, 1, MOST - 1, MOST - 1).spans(), [(MOST, MOST, 0, 0)])
        self.assertEqual(moved(table, 1, MOST, MOST).spans(), [None])
        self.check_raises(BadLine, {"line": MOST + 1}, moved, table, 1, MOST - 1, MOST)


class MovedErrorsTest(Case):
    def setUp(self):
        self.tables = [Table.of([(5, 6, 0, 1), None], 5), Table.of([], 1)]

    def test_lines(self):
        for table in self.tables:
            for line in NO_LINES:
                self.check_refuses(BadLine, "line", line, moved, table, line, 0, 0)

    def test_counts(self):
        for table in self.tables:
            for many in NO_COUNTS:
                self.check_refuses(BadCount, "many", many, moved, table, 9, many, 0)
                self.check_refuses(BadCount, "many", many, moved, table, 9, 0, many)

    def test_several_at_once(self):
        for table in self.tables:
            for line in (0, None, True, ODD):
                for many in (-1, None, False, ODD):
                    self.check_refuses(BadLine, "line", line, moved, table, line, many, many)
                    self.check_refuses(BadLine, "line", line, moved, added=many, removed=1, line=line, table=table)
            for many in (-1, None, False, ODD):
                for other in (-2, "x", True):
                    self.check_refuses(BadCount, "many", many, moved, table, 5, many, other)
                    self.check_refuses(BadCount, "many", many, moved, added=other, removed=many, line=5, table=table)

    def test_arguments_before_new_lines(self):
        table = Table.of([(MOST, MOST, 0, 0)], 1)
        self.check_raises(BadCount, {"many": MOST + 1}, moved, table, 1, 0, MOST + 1)
        self.check_raises(BadLine, {"line": 2 * MOST}, moved, table, 1, 0, MOST)
        self.assertEqual(table.spans(), [(MOST, MOST, 0, 0)])


if __name__ == "__main__":
    unittest.main()
