"""Point 14: an index answers what its table answers, and reads few entries for it."""

import random
import unittest

from codespans.errors import BadCount, BadStep
from codespans.lookup import Index
from codespans.tables import Table
from tests.support import MOST, NO_INTEGERS, ODD, Case, random_data, random_spans

A = (5, 5, 4, 9)
B = (7, 9, 0, 200)
# Entries of 1, 8, 2, 8, 1, 1 and 3 steps, at 0, 1, 3, 5, 10, 15 and 17.
SPANS = [None] + [A] * 10 + [B] * 9 + [(7, 7, None, None)] + [None] * 3
EDGE_TABLES = [
    Table.of([], 1), Table.of([A], 5), Table.of([None] * 8, 3), Table.of([None] * 9, 3),
    Table.of(SPANS, 5), Table.of(SPANS, MOST), Table([128, 69, 128, 69, 208, 4, 9, 248], 5),
]


def checkpoints_by_hand(table, every):
    """The checkpoints by the words of the document, from what the table tells."""
    found = []
    for number, (at, start, _, _, _) in enumerate(table.entries()):
        if number % every == 0:
            before = [span[0] for span in table.spans()[:start] if span is not None]
            found.append((start, at, before[-1] if before else table.first_line))
    return found


def number_of_entry(table, step):
    return sum(1 for _, start, _, _, _ in table.entries() if start <= step) - 1


class CheckpointsTest(Case):
    def test_the_example(self):
        index = Index(Table.of([None] * 20, 1), 2)
        self.assertEqual(index.checkpoints(), [(0, 0, 1), (16, 2, 1)])

    def test_a_checkpoint_for_every_entry(self):
        self.assertEqual(Index(Table.of(SPANS, 4), 1).checkpoints(), [
            (0, 0, 4), (1, 1, 4), (9, 4, 5), (11, 6, 5), (19, 12, 7), (20, 18, 7), (21, 20, 7),
        ])

    def test_checkpoints_for_some_entries(self):
        table = Table.of(SPANS, 4)
        self.assertEqual(Index(table, 2).checkpoints(), [(0, 0, 4), (9, 4, 5), (19, 12, 7), (21, 20, 7)])
        self.assertEqual(Index(table, 3).checkpoints(), [(0, 0, 4), (11, 6, 5), (21, 20, 7)])
        self.assertEqual(Index(table, 6).checkpoints(), [(0, 0, 4), (21, 20, 7)])

    def test_a_checkpoint_for_the_first_entry_alone(self):
        for every in (7, 8, 5000, MOST + 1, 10 ** 1999):
            self.assertEqual(Index(Table.of(SPANS, 4), every).checkpoints(), [(0, 0, 4)])

    def test_the_empty_table(self):
        for every in (1, 2, 10 ** 1999):
            index = Index(Table.of([], 3), every)
            self.assertEqual(index.checkpoints(), [])
            self.assertEqual(index.entries_read, 0)
            for step in (0, -1, 1):
                self.check_raises(BadStep, {"step": step}, index.span_at, step)
            self.assertEqual(index.entries_read, 0)

    def test_kinds(self):
        rows = Index(Table.of(SPANS, 4), 2).checkpoints()
        self.assertIs(type(rows), list)
        for row in rows:
            self.assertIs(type(row), tuple)
            self.assertEqual([type(part) for part in row], [int, int, int])

    def test_by_name_in_any_order(self):
        table = Table.of(SPANS, 4)
        wanted = Index(table, 2).checkpoints()
        self.assertEqual(Index(table=table, every=2).checkpoints(), wanted)
        self.assertEqual(Index(every=2, table=table).checkpoints(), wanted)
        self.assertEqual(Index(table, every=2).span_at(step=4), A)

    def test_what_is_no_number_of_entries(self):
        for table in (Table.of(SPANS, 4), Table.of([], 1)):
            for every in (0, -1, -10 ** 1999):
                self.check_raises(BadCount, {"many": every}, Index, table, every)
            for thing in NO_INTEGERS:
                self.check_refuses(BadCount, "many", thing, Index, table, thing)
                self.check_refuses(BadCount, "many", thing, Index, every=thing, table=table)

    def test_a_returned_list_is_new(self):
        index = Index(Table.of(SPANS, 4), 2)
        first = index.checkpoints()
        kept = list(first)
        first[1] = "changed"
        first.append("more")
        self.assertEqual(index.checkpoints(), kept)
        first.clear()
        self.assertEqual(index.checkpoints(), kept)
        self.assertEqual([index.span_at(step) for step in range(len(SPANS))], SPANS)


class LookupTest(Case):
    def check_all_steps(self, table, every):
        index = Index(table, every)
        self.assertEqual(index.checkpoints(), checkpoints_by_hand(table, every))
        self.assertEqual(index.entries_read, 0)
        for step in range(table.step_count):
            self.check_step(index, table, every, step)

    def check_step(self, index, table, every, step):
        self.assertEqual(index.span_at(step), table.span_at(step))
        self.assertEqual(index.entries_read, number_of_entry(table, step) % every + 1)
        self.assertLessEqual(index.entries_read, every)

    def test_edges(self):
        for table in EDGE_TABLES:
            for every in (1, 2, 3, 6, 7, 8, 10 ** 1999):
                self.check_all_steps(table, every)

    def test_entries_read(self):
        index = Index(Table.of(SPANS, 4), 3)
        self.assertIn("entries_read", vars(index))
        self.assertEqual(index.entries_read, 0)
        self.assertIs(type(index.entries_read), int)
        read = [1] + [2] * 8 + [3] * 2 + [1] * 8 + [2] + [3] + [1] * 3
        for step, wanted in enumerate(read):
            index.span_at(step)
            self.assertEqual(index.entries_read, wanted)
        index.checkpoints()
        self.assertEqual(index.entries_read, 1)

    def test_random_tables(self):
        for seed in range(60):
            spans = random_spans(seed)
            for table in (Table.of(spans, 4), Table(random_data(seed, spans, 4), 4)):
                for every in (1, 2, 5, 100):
                    self.check_all_steps(table, every)

    def test_any_order_of_steps(self):
        rng = random.Random(14)
        spans = random_spans(3, 30)
        table = Table(random_data(3, spans, 1), 1)
        for every in (1, 2, 3, 4, 50):
            index = Index(table, every)
            steps = list(range(len(spans)))[::-1] + [rng.randrange(len(spans)) for _ in range(200)]
            for step in steps:
                self.check_step(index, table, every, step)

    def test_invalid_steps_change_nothing(self):
        index = Index(Table.of(SPANS, 4), 3)
        for wanted, step in ((0, None), (3, 10), (1, 11), (2, 1)):
            if step is not None:
                index.span_at(step)
            for wrong in (-1, -24, 24, 25, 5000, 10 ** 1999, -10 ** 1999):
                self.check_raises(BadStep, {"step": wrong}, index.span_at, wrong)
                self.assertEqual(index.entries_read, wanted)
            for thing in NO_INTEGERS:
                self.check_refuses(BadStep, "step", thing, index.span_at, thing)
                self.check_refuses(BadStep, "step", thing, index.span_at, step=thing)
                self.assertEqual(index.entries_read, wanted)
        self.assertEqual(len(index.checkpoints()), 3)

    def test_the_same_error_as_the_table(self):
        table = Table.of(SPANS, 4)
        index = Index(table, 2)
        for step in (-1, 24, True, None, "1", 1.0, ODD):
            self.check_refuses(BadStep, "step", step, table.span_at, step)
            self.check_refuses(BadStep, "step", step, index.span_at, step)

    def test_two_indexes_of_one_table_by_turns(self):
        table = Table.of(SPANS, 4)
        dense, rare = Index(table, 1), Index(table, 5)
        for step in (0, 20, 10, 23, 11, 1):
            self.check_step(rare, table, 5, step)
            kept = rare.entries_read
            self.check_step(dense, table, 1, 23 - step)
            self.assertEqual(rare.entries_read, kept)
        self.assertEqual(len(dense.checkpoints()), 7)
        self.assertEqual(len(rare.checkpoints()), 2)

    def test_indexes_of_two_tables_by_turns(self):
        first, second = Table.of(SPANS, 4), Table.of(SPANS[::-1], 90)
        a, b = Index(first, 2), Index(second, 4)
        for step in (0, 23, 5, 18, 11, 12):
            self.check_step(a, first, 2, step)
            self.check_step(b, second, 4, step)
            self.check_step(a, first, 2, 23 - step)
        self.assertEqual(a.checkpoints(), checkpoints_by_hand(first, 2))
        self.assertEqual(b.checkpoints(), checkpoints_by_hand(second, 4))

    def test_lists_that_were_passed_and_change_later(self):
        data = [255, 128, 69, 249]
        index = Index(Table(data, 5), 1)
        data[1] = 255
        data.clear()
        self.assertEqual([index.span_at(step) for step in range(11)], [None] * 8 + [A] + [None] * 2)

    def test_5000_steps(self):
        spans = [None if k % 7 == 0 else (k // 3 + 1, k // 3 + 1, 0, k % 30) for k in range(5000)]
        table = Table.of(spans, 1)
        for every, wanted in ((1, 5000), (64, 79), (4999, 2), (5000, 1)):
            index = Index(table, every)
            self.assertEqual(len(index.checkpoints()), wanted)
            for step in list(range(0, 5000, 613)) + [4998, 4999]:
                self.assertEqual(index.span_at(step), spans[step])
                self.assertEqual(index.entries_read, step % every + 1)

    def test_every_step_of_many(self):
        spans = [(k % 9 + 1, k % 9 + 1, 0, k % 30) for k in range(5000)]
        index = Index(Table.of(spans, 1), 16)
        self.assertEqual([index.span_at(step) for step in range(5000)], spans)


if __name__ == "__main__":
    unittest.main()
