"""Points 15, 17 and 3: edits of the code, and the bytes that stay as they are behind them."""

import random
import unittest

from codespans.edits import cut, grow, insert, joined, patch, remove
from codespans.errors import BadCount, BadSpan, BadStep
from codespans.tables import Table, shortest
from tests.support import MOST, NO_INTEGERS, ODD, Case, random_data, random_spans
from tests.test_spans import NO_SPANS

A = (5, 5, 4, 9)
B = (5, 6, 4, 9)
C = (9, 9, None, None)
SPANS = [None, A, A, B, None, None, C, A]


class EditCase(Case):
    def check_table(self, table, spans, first_line):
        self.assertIs(type(table), Table)
        self.assertEqual(table.spans(), spans)
        self.assertEqual(table.first_line, first_line)
        self.assertEqual(table.data, Table.of(spans, first_line).data)

    def check_every_edit(self, table, added):
        """All edits at every step of a table, against the same edits of a list."""
        spans = table.spans()
        line = table.first_line
        kept = (table.data, table.entries())
        for start in range(len(spans) + 1):
            self.check_table(insert(table, start, added), spans[:start] + added + spans[start:], line)
            for end in range(start, len(spans) + 1):
                self.check_table(cut(table, start, end), spans[start:end], line)
                self.check_table(remove(table, start, end), spans[:start] + spans[end:], line)
        for step in range(len(spans)):
            for many in (0, 1, 7, 9):
                grown = spans[:step] + [spans[step]] * (many + 1) + spans[step + 1:]
                self.check_table(grow(table, step, many), grown, line)
        self.assertEqual((table.data, table.entries(), table.spans()), (*kept, spans))


class EditsTest(EditCase):
    def test_every_place(self):
        for first_line in (1, 5, MOST):
            self.check_every_edit(Table.of(SPANS, first_line), [A, None])

    def test_spans_that_equal_a_neighbour(self):
        for spans in ([A], [None], [C], [B, A], [None, A], [A, None]):
            self.check_every_edit(Table.of(SPANS, 5), spans)
        table = insert(Table.of([A] * 7 + [None], 5), 7, [A])
        self.assertEqual(list(table.data), [135, 69, 248])
        table = insert(Table.of([A] * 3, 5), 1, [A] * 6)
        self.assertEqual(list(table.data), [135, 69, 128, 69])
        table = remove(Table.of([A, None, A], 5), 1, 2)
        self.assertEqual(list(table.data), [129, 69])

    def test_random_tables(self):
        for seed in range(25):
            spans = random_spans(seed, 5)[:24]
            added = random_spans(seed + 500, 2)
            for table in (Table.of(spans, 4), Table(random_data(seed, spans, 4), 4)):
                self.check_every_edit(table, added)

    def test_the_empty_table(self):
        table = Table.of([], 7)
        self.check_table(insert(table, 0, []), [], 7)
        self.check_table(insert(table, 0, [A, None]), [A, None], 7)
        self.check_table(remove(table, 0, 0), [], 7)
        self.check_table(cut(table, 0, 0), [], 7)
        self.check_table(joined(table, table), [], 7)
        for step in (0, -1, 1):
            self.check_raises(BadStep, {"step": step}, grow, table, step, 1)

    def test_edits_of_no_step_and_of_all_steps(self):
        data = random_data(2, SPANS, 5)
        table = Table(data, 5)
        for step in range(len(SPANS) + 1):
            self.check_table(insert(table, step, []), SPANS, 5)
            self.check_table(insert(table, step, ()), SPANS, 5)
            self.check_table(remove(table, step, step), SPANS, 5)
            self.check_table(cut(table, step, step), [], 5)
        self.check_table(grow(table, 0, 0), SPANS, 5)
        self.check_table(remove(table, 0, 8), [], 5)
        self.check_table(cut(table, 0, 8), SPANS, 5)
        self.assertEqual(table.data, data)

    def test_the_result_is_the_shortest_table_also_of_a_longer_one(self):
        table = Table([128, 69, 208, 4, 9, 248, 248, 240, 8, 0, 64, 0, 0], 5)
        spans = [A, A, None, None, C]
        for new in (insert(table, 3, []), remove(table, 3, 3), cut(table, 0, 5), grow(table, 3, 0),
                    joined(table, Table.of([], 1)), joined(Table.of([], 5), table)):
            self.check_table(new, spans, 5)
            self.assertEqual(new.data, shortest(table).data)
            self.assertLess(len(new.data), len(table.data))

    def test_spans_as_list_and_tuple(self):
        table = Table.of(SPANS, 5)
        for spans in ([B, C], (B, C)):
            self.check_table(insert(table, 2, spans), [None, A, B, C, *SPANS[2:]], 5)

    def test_joined(self):
        first, second = Table.of([A, None], 5), Table.of([None, B], 90)
        self.check_table(joined(first, second), [A, None, None, B], 5)
        self.check_table(joined(second, first), [None, B, A, None], 90)
        self.check_table(joined(first, first), [A, None, A, None], 5)
        self.check_table(joined(Table.of([], 3), second), [None, B], 3)
        self.check_table(joined(first, Table.of([], 3)), [A, None], 5)
        self.check_table(joined(Table.of([A], 5), Table.of([A], 1)), [A, A], 5)
        self.assertEqual((first.spans(), second.spans()), ([A, None], [None, B]))
        for seed in range(40):
            a, b = random_spans(seed), random_spans(seed + 90)
            tables = Table(random_data(seed, a, 3), 3), Table(random_data(seed, b, 8), 8)
            self.check_table(joined(*tables), a + b, 3)

    def test_the_example(self):
        table = Table.of([(1, 1, 0, 1), (1, 1, 0, 1)], 1)
        self.assertEqual(patch(table, grow(table, 0, 1)), (0, 1, b"\x82"))

    def test_by_name_in_any_order(self):
        table = Table.of(SPANS, 5)
        self.check_table(insert(spans=[C], step=1, table=table), [None, C, *SPANS[1:]], 5)
        self.check_table(insert(table, spans=[C], step=1), [None, C, *SPANS[1:]], 5)
        self.check_table(remove(end=3, start=1, table=table), [None, *SPANS[3:]], 5)
        self.check_table(cut(end=3, table=table, start=1), [A, A], 5)
        self.check_table(grow(many=2, step=3, table=table), SPANS[:3] + [B] * 3 + SPANS[4:], 5)
        self.check_table(joined(b=Table.of([A], 1), a=Table.of([B], 2)), [B, A], 2)

    def test_lists_that_were_passed_and_change_later(self):
        spans = [A, None]
        table = insert(Table.of([B], 5), 0, spans)
        self.assertEqual(spans, [A, None])
        spans[0] = C
        spans.append(B)
        self.check_table(table, [A, None, B], 5)

    def test_5000_steps(self):
        spans = [None if k % 7 == 0 else (k + 1, k + 1, 0, k % 30) for k in range(5000)]
        table = Table.of(spans, 1)
        self.check_table(insert(table, 2500, spans[:0]), spans, 1)
        self.check_table(insert(Table.of([], 1), 0, spans), spans, 1)
        self.check_table(insert(Table.of(spans[:4], 1), 4, spans[4:]), spans, 1)
        self.check_table(remove(table, 1, 4999), [spans[0], spans[4999]], 1)
        self.check_table(cut(table, 4000, 5000), spans[4000:], 1)
        self.check_table(grow(Table.of([A], 1), 0, 4999), [A] * 5000, 1)
        self.check_table(joined(Table.of(spans[:2500], 1), Table.of(spans[2500:], 1)), spans, 1)


class EditErrorsTest(EditCase):
    def setUp(self):
        self.tables = [Table.of(SPANS, 5), Table.of([], 5), Table.of([A], 5)]

    def tearDown(self):
        self.assertEqual([table.spans() for table in self.tables], [SPANS, [], [A]])

    def wrong_steps(self, low, high):
        return [low - 1, high + 1, high + 2, -10 ** 1999, 10 ** 1999, 5000, *NO_INTEGERS]

    def test_steps(self):
        for table in self.tables:
            many = table.step_count
            for step in self.wrong_steps(0, many):
                self.check_refuses(BadStep, "step", step, insert, table, step, [A])
                for function in (remove, cut):
                    self.check_refuses(BadStep, "step", step, function, table, step, many)
                    self.check_refuses(BadStep, "step", step, function, table, start=step, end=0)
            for step in self.wrong_steps(0, many - 1):
                self.check_refuses(BadStep, "step", step, grow, table, step, 1)

    def test_ends(self):
        for table in self.tables:
            for start in range(table.step_count + 1):
                for end in self.wrong_steps(start, table.step_count):
                    self.check_refuses(BadStep, "step", end, remove, table, start, end)
                    self.check_refuses(BadStep, "step", end, cut, table, end=end, start=start)

    def test_spans(self):
        for table in self.tables:
            for thing in NO_SPANS:
                self.check_raises(BadSpan, {"at": 0}, insert, table, 0, [thing])
                self.check_raises(BadSpan, {"at": 2}, insert, table, table.step_count, (None, A, thing))
                self.check_raises(BadSpan, {"at": 1}, insert, table, 0, [None, thing, A, thing])
            for thing in (None, True, 0, "", "ab", b"", {}, {1: A}, set(), range(0), A[0], ODD, iter([A])):
                self.check_raises(BadSpan, {"at": -1}, insert, table, 0, thing)
            # A span alone is a tuple of four things, none of which is a span.
            self.check_raises(BadSpan, {"at": 0}, insert, table, 0, A)

    def test_counts(self):
        for table in self.tables[::2]:
            for many in (-1, -2, -10 ** 1999, *NO_INTEGERS):
                self.check_refuses(BadCount, "many", many, grow, table, 0, many)
                self.check_refuses(BadCount, "many", many, grow, many=many, step=0, table=table)

    def test_several_invalid_arguments_at_once(self):
        table = self.tables[0]
        for step in (-1, 9, None, True, ODD):
            for thing in (None, 7, [1], [None, 0], "x", ODD):
                self.check_refuses(BadStep, "step", step, insert, table, step, thing)
                self.check_refuses(BadStep, "step", step, insert, spans=thing, step=step, table=table)
            for end in (-2, 10, None, False, "1", ODD):
                self.check_refuses(BadStep, "step", step, remove, table, step, end)
                self.check_refuses(BadStep, "step", step, cut, end=end, start=step, table=table)
        for step in (-1, 8, None, True, ODD):
            for many in (-2, None, False, "1", ODD):
                self.check_refuses(BadStep, "step", step, grow, table, step, many)
                self.check_refuses(BadStep, "step", step, grow, many=many, step=step, table=table)
        for step in (-1, 0, 1):
            self.check_raises(BadStep, {"step": step}, grow, self.tables[1], step, -1)


class KeptBytesTest(Case):
    """Point 17, for edits of tables that were written."""

    def check_kept(self, old, new, start, end):
        """start and end are the edited place; they are equal if it is a point between steps."""
        before = [row for row in old.runs() if row[1] < start]
        behind = [row for row in old.runs() if row[0] > end and row[2] is not None]
        bounds = {step: at for at, step, _, _, _ in old.entries()}
        bounds[old.step_count] = len(old.data)
        head = old.data[:bounds[before[-1][1]]] if before else b""
        tail = old.data[bounds[behind[0][1]]:] if behind else b""
        self.assertTrue(new.data.startswith(head))
        self.assertTrue(new.data.endswith(tail))
        at, removed, added = patch(old, new)
        self.assertGreaterEqual(at, len(head))
        self.assertLessEqual(removed, len(old.data) - len(head) - len(tail))
        self.assertLessEqual(len(added), max(0, len(new.data) - len(head) - len(tail)))

    def check_every_edit(self, spans, first_line, added):
        old = Table.of(spans, first_line)
        for step in range(len(spans) + 1):
            if added:
                self.check_kept(old, insert(old, step, added), step, step)
            for end in range(step + 1, len(spans) + 1):
                self.check_kept(old, remove(old, step, end), step, end)
        for step in range(len(spans)):
            for many in (1, 6, 8):
                self.check_kept(old, grow(old, step, many), step + 1, step + 1)

    def test_between_runs_and_within_a_run(self):
        spans = [A] * 3 + [B] * 9 + [C] + [A] * 2 + [(6, 6, 100, 120)] * 2 + [B]
        for added in ([A], [B] * 9, [C], [None], [(400, 400, 0, 0)]):
            self.check_every_edit(spans, 5, added)

    def test_steps_without_a_position_beside_the_place(self):
        spans = [None, A, None, None, B, None, (8, 8, 0, 0), None, None, (8, 8, 0, 3), C, None]
        for added in ([A], [None], [C, None], [None, B, None], [(400, 400, 0, 0)]):
            self.check_every_edit(spans, 5, added)
            self.check_every_edit([None] * 9 + spans[1:], 5, added)

    def test_random_tables(self):
        rng = random.Random(17)
        for seed in range(60):
            spans = random_spans(seed, 8)[:40]
            old = Table.of(spans, 4)
            for _ in range(30):
                low, high = sorted([rng.randint(0, len(spans)), rng.randint(0, len(spans))])
                added = random_spans(rng.randrange(900), 2)
                if added:
                    self.check_kept(old, insert(old, low, added), low, low)
                if low < high:
                    self.check_kept(old, remove(old, low, high), low, high)
                    self.check_kept(old, grow(old, low, rng.randint(1, 9)), low + 1, low + 1)

    def test_a_far_edit_keeps_nearly_all_bytes(self):
        spans = [(k + 1, k + 1, 0, 1) for k in range(5000)]
        old = Table.of(spans, 1)
        for new in (insert(old, 2500, [None]), insert(old, 2500, [(1, 1, 0, 0)]), remove(old, 2500, 2502),
                    grow(old, 2500, 3)):
            at, removed, added = patch(old, new)
            self.assertGreater(at, 7000)
            self.assertLess(removed, 16)
            self.assertLess(len(added), 24)
            self.assertEqual(new.data, old.data[:at] + added + old.data[at + removed:])


if __name__ == "__main__":
    unittest.main()
