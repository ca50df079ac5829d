"""Points 28 and 29: rows of tables with repetitions, which answer what they would if written out."""

import random
import unittest

from codespans.edits import joined
from codespans.errors import BadCount, BadLine, BadStep, TooLong
from codespans.ropes import Rope
from codespans.tables import Table
from tests.support import MOST, NO_INTEGERS, ODD, Case, random_data, random_spans

MANY = 10 ** 12
A = (5, 5, 4, 9)
B = (5, 6, 4, 9)
C = (9, 9, None, None)
EMPTY = Table.of([], 1)
NO_STEPS = [-1, -5, 10 ** 1999, -10 ** 1999, *NO_INTEGERS]


def table_of(*spans):
    return Table.of(spans, 3)


def written_out(parts):
    """The spans of all steps, and the place of each."""
    spans, places = [], []
    for part, (table, times) in enumerate(parts):
        for number in range(times):
            spans += table.spans()
            places += [(part, number, step) for step in range(table.step_count)]
    return spans, places


def joined_table(parts):
    table = EMPTY
    for part, times in parts:
        for _ in range(times):
            table = joined(table, part)
    return table


def random_parts(rng, seed):
    parts = []
    for k in range(rng.randint(0, 5)):
        spans = rng.choice([random_spans(seed * 9 + k, 3, 3)[:12], [A], [A, A], [A, B], [None], [B, A, B], []])
        table = rng.choice([Table.of(spans, 4), Table(random_data(seed, spans, 4), 4)])
        parts.append((table, rng.choice([0, 1, 1, 2, 3])))
    return parts


class RopeCase(Case):
    def check_rope(self, parts):
        """All answers of a small rope, against what the words of the document give for it."""
        kept = list(parts)
        rope = Rope(parts)
        spans, places = written_out(parts)
        table = joined_table(parts)
        self.assertEqual(spans, table.spans())
        self.assertEqual(rope.step_count, len(spans))
        self.assertIs(type(rope.step_count), int)
        runs = {step: run for run in table.runs() for step in range(run[0], run[1])}
        for step, span in enumerate(spans):
            self.assertEqual(rope.span_at(step), span)
            place = rope.place_of(step)
            self.assertEqual(place, places[step])
            self.assertEqual([type(part) for part in place], [int, int, int])
            run = rope.run_at(step)
            self.assertEqual(run, runs[step])
            self.assertIs(type(run), tuple)
        for line in {None, *range(-1, 12), MOST, 10 ** 1999, *table.lines()}:
            count = len([1 for span in spans if (None if span is None else span[0]) == line])
            self.assertEqual(rope.count_of(line), count)
        self.assertEqual(rope.spans(0, len(spans)), spans)
        self.assertEqual(list(parts), kept)

    def check_steps(self, rope, wanted):
        """Single steps of a rope that is too long to be written out: step, place, span, run."""
        for step, place, span, run in wanted:
            self.assertEqual(rope.place_of(step), place)
            self.assertEqual(rope.span_at(step), span)
            self.assertEqual(rope.run_at(step), (*run, span))
            self.assertEqual(rope.spans(step, step + 1), [span])


class SmallRopesTest(RopeCase):
    def test_without_parts_and_without_steps(self):
        for parts in ([], (), [(EMPTY, 0)], [(EMPTY, 1)], [(EMPTY, MANY)], [(table_of(A), 0)],
                      [(EMPTY, MANY), (table_of(A, B), 0), (EMPTY, 2)]):
            rope = Rope(parts)
            self.assertEqual(rope.step_count, 0)
            self.assertEqual(rope.spans(0, 0), [])
            for line in (None, 1, 5):
                self.assertEqual(rope.count_of(line), 0)
            for call in (rope.span_at, rope.place_of, rope.run_at):
                for step in (0, 1, -1):
                    self.check_raises(BadStep, {"step": step}, call, step)

    def test_one_part(self):
        for spans in ([A], [None], [A, A, A], [A, B], [A, A, B, B], [A, B, A], [None, A, None, None], [A, None, B, C]):
            for times in (0, 1, 2, 3):
                self.check_rope([(Table.of(spans, 3), times)])
                self.check_rope([(EMPTY, 5), (Table.of(spans, 3), times), (EMPTY, 1)])

    def test_two_parts(self):
        tables = [table_of(A), table_of(A, A), table_of(A, B), table_of(B, A), table_of(A, B, A), table_of(None), EMPTY]
        for first in tables:
            for second in tables:
                for times in (0, 1, 2):
                    self.check_rope([(first, times), (second, 2)])
                    self.check_rope([(first, 2), (second, times), (first, 1)])

    def test_parts_as_list_and_tuple(self):
        parts = [(table_of(A, B), 2), (table_of(None), 1)]
        self.check_rope(parts)
        self.check_rope(tuple(parts))

    def test_tables_written_apart(self):
        apart = Table([128, 69, 208, 4, 9, 128, 69, 248, 248], 5)
        self.check_rope([(apart, 2)])
        self.check_rope([(Table([128, 69, 128, 69], 5), 3), (apart, 1)])

    def test_the_same_table_in_several_parts(self):
        table = table_of(A, B)
        self.check_rope([(table, 1), (table, 2), (EMPTY, 1), (table, 1)])

    def test_random_ropes(self):
        rng = random.Random(29)
        for seed in range(300):
            self.check_rope(random_parts(rng, seed))

    def test_60_parts(self):
        self.check_rope([(table_of(*[[A], [A, A], [B, A], [], [None]][k * k % 5]), k % 3) for k in range(60)])
        self.check_rope([(table_of(A), 1)] * 60)
        self.check_rope([(EMPTY, 9)] * 59 + [(table_of(A), 1)])

    def test_5000_steps(self):
        spans = [None if k % 7 == 0 else (k // 3 + 1, k // 3 + 1, 0, k % 30) for k in range(5000)]
        table = Table.of(spans, 1)
        rope = Rope([(table, 2)])
        self.assertEqual(rope.step_count, 10000)
        self.assertEqual(rope.spans(0, 5000), spans)
        self.assertEqual(rope.spans(2500, 7500), spans[2500:] + spans[:2500])
        self.assertEqual(rope.count_of(None), 2 * spans.count(None))
        for step in range(0, 5000, 61):
            self.assertEqual(rope.run_at(5000 + step)[2], spans[step])


class GreatRopesTest(RopeCase):
    def test_the_example(self):
        rope = Rope([(Table.of([None], 1), MANY)])
        self.assertEqual(rope.run_at(5), (0, 1000000000000, None))

    def test_edges_of_parts_and_repetitions(self):
        rope = Rope([(table_of(A, B), MANY), (table_of(C, C, None), MANY), (table_of(B), 1)])
        first, second = 2 * MANY, 5 * MANY
        self.assertEqual(rope.step_count, second + 1)
        self.check_steps(rope, [
            (0, (0, 0, 0), A, (0, 1)),
            (1, (0, 0, 1), B, (1, 2)),
            (2, (0, 1, 0), A, (2, 3)),
            (MANY, (0, MANY // 2, 0), A, (MANY, MANY + 1)),
            (first - 2, (0, MANY - 1, 0), A, (first - 2, first - 1)),
            (first - 1, (0, MANY - 1, 1), B, (first - 1, first)),
            (first, (1, 0, 0), C, (first, first + 2)),
            (first + 1, (1, 0, 1), C, (first, first + 2)),
            (first + 2, (1, 0, 2), None, (first + 2, first + 3)),
            (first + 3, (1, 1, 0), C, (first + 3, first + 5)),
            (second - 3, (1, MANY - 1, 0), C, (second - 3, second - 1)),
            (second - 1, (1, MANY - 1, 2), None, (second - 1, second)),
            (second, (2, 0, 0), B, (second, second + 1)),
        ])
        for step in (second + 1, second + 2):
            self.check_raises(BadStep, {"step": step}, rope.span_at, step)

    def test_runs_across_repetitions(self):
        rope = Rope([(table_of(A, A, B, A), MANY)])
        end = 4 * MANY
        self.check_steps(rope, [
            (0, (0, 0, 0), A, (0, 2)), (2, (0, 0, 2), B, (2, 3)), (3, (0, 0, 3), A, (3, 6)),
            (4, (0, 1, 0), A, (3, 6)), (5, (0, 1, 1), A, (3, 6)), (6, (0, 1, 2), B, (6, 7)),
            (end - 5, (0, MANY - 2, 3), A, (end - 5, end - 2)), (end - 4, (0, MANY - 1, 0), A, (end - 5, end - 2)),
            (end - 3, (0, MANY - 1, 1), A, (end - 5, end - 2)), (end - 1, (0, MANY - 1, 3), A, (end - 1, end)),
        ])

    def test_runs_across_parts(self):
        rope = Rope([
            (table_of(B, A), MANY), (EMPTY, MANY), (table_of(A, A), MANY), (table_of(B), 0), (table_of(A), MANY),
            (EMPTY, 1), (table_of(A, B), MANY),
        ])
        start, end = 2 * MANY - 1, 5 * MANY + 1
        for step, place in (
            (start, (0, MANY - 1, 1)), (start + 1, (2, 0, 0)), (start + 2, (2, 0, 1)), (4 * MANY - 1, (2, MANY - 1, 1)),
            (4 * MANY, (4, 0, 0)), (5 * MANY - 1, (4, MANY - 1, 0)), (5 * MANY, (6, 0, 0)),
        ):
            self.check_steps(rope, [(step, place, A, (start, end))])
        self.check_steps(rope, [
            (start - 1, (0, MANY - 1, 0), B, (start - 1, start)), (end, (6, 0, 1), B, (end, end + 1)),
            (end + 1, (6, 1, 0), A, (end + 1, end + 2)),
        ])

    def test_all_steps_have_one_span(self):
        for span in (None, A, C):
            rope = Rope([(Table.of([span] * 5, 1), MANY), (EMPTY, 7), (Table.of([span], 9), 1), (table_of(B), 0)])
            for step in (0, 4, 5, MANY, 5 * MANY - 1, 5 * MANY):
                self.assertEqual(rope.run_at(step), (0, 5 * MANY + 1, span))
            self.assertEqual(rope.count_of(None if span is None else span[0]), 5 * MANY + 1)

    def test_runs_across_60_parts(self):
        table = Table.of([A] * 5000, 1)
        rope = Rope([(table, MANY)] * 60)
        end = 3 * 10 ** 17
        self.assertEqual(rope.step_count, end)
        self.check_steps(rope, [
            (0, (0, 0, 0), A, (0, end)), (end - 1, (59, MANY - 1, 4999), A, (0, end)),
            (5000 * MANY, (1, 0, 0), A, (0, end)), (5000 * MANY - 1, (0, MANY - 1, 4999), A, (0, end)),
            (end // 2 + 7, (30, 0, 7), A, (0, end)),
        ])
        self.assertEqual(rope.count_of(5), end)
        table = Table.of([A] + [(k % 7 + 1, k % 7 + 1, 0, 1) for k in range(4998)] + [A], 1)
        rope = Rope([(table, MANY)] * 60)
        self.assertEqual(rope.run_at(end - 5000), (end - 5001, end - 4999, A))
        self.assertEqual(rope.run_at(10 ** 17), (10 ** 17 - 1, 10 ** 17 + 1, A))

    def test_counts(self):
        rope = Rope([(table_of(A, B, None), MANY), (table_of(C, None), 2), (table_of((7, 9, 0, 0)), 0), (table_of(A), 1)])
        for line, count in (
            (5, 2 * MANY + 1), (None, MANY + 2), (9, 2), (6, 0), (7, 0), (0, 0), (-1, 0), (1, 0), (10 ** 1999, 0),
        ):
            self.assertEqual(rope.count_of(line), count)
        self.assertEqual(Rope([(table_of((1, 1, 0, 0)), 3)]).count_of(0), 0)

    def test_ranges_of_spans(self):
        rope = Rope([(table_of(A, B), MANY), (table_of(None), MANY)])
        middle, end = 2 * MANY, 3 * MANY
        for at in (0, 1, middle, end):
            self.assertEqual(rope.spans(at, at), [])
        self.assertEqual(rope.spans(1, 4), [B, A, B])
        self.assertEqual(rope.spans(middle - 2, middle + 2), [A, B, None, None])
        self.assertEqual(rope.spans(0, 5000), [A, B] * 2500)
        self.assertEqual(rope.spans(middle - 2500, middle + 2500), [A, B] * 1250 + [None] * 2500)
        self.assertEqual(rope.spans(end - 5000, end), [None] * 5000)
        for start in (0, 1, middle - 2500, end - 5001):
            self.check_raises(TooLong, {}, rope.spans, start, start + 5001)
        self.check_raises(TooLong, {}, rope.spans, 0, end)


class RopeArgumentsTest(RopeCase):
    def setUp(self):
        self.parts = [(table_of(A, B), 2), (EMPTY, 3), (table_of(None, C), 1)]
        self.rope = Rope(self.parts)

    def test_by_name_in_any_order(self):
        rope = Rope(parts=self.parts)
        self.assertEqual(rope.span_at(step=4), None)
        self.assertEqual(rope.place_of(step=5), (2, 0, 1))
        self.assertEqual(rope.count_of(line=9), 1)
        self.assertEqual(rope.run_at(step=1), (1, 2, B))
        self.assertEqual(rope.spans(end=4, start=3), [B])
        self.assertEqual(rope.spans(3, end=4), [B])

    def test_parts_that_are_changed_later(self):
        answers = (self.rope.spans(0, 6), self.rope.step_count, self.rope.run_at(4), self.rope.place_of(4))
        self.parts[0] = (table_of(C), 9)
        self.parts.append((table_of(A), MANY))
        now = (self.rope.spans(0, 6), self.rope.step_count, self.rope.run_at(4), self.rope.place_of(4))
        self.assertEqual(now, answers)
        self.parts.clear()
        self.assertEqual(self.rope.spans(0, 6), [A, B, A, B, None, C])
        self.assertEqual(self.rope.count_of(5), 4)

    def test_returned_lists_are_new(self):
        first = self.rope.spans(0, 6)
        first[0] = None
        first.clear()
        self.assertEqual(self.rope.spans(0, 6), [A, B, A, B, None, C])
        self.assertEqual(self.parts[0][0].spans(), [A, B])

    def test_what_is_no_number_of_rounds(self):
        for thing in (-1, MANY + 1, 10 ** 1999, -10 ** 1999, *NO_INTEGERS):
            for table in (table_of(A), EMPTY):
                for parts in ([(table, thing)], ((table, 0), (table, thing)), [(table, MANY), (table, thing), (table, -2)]):
                    self.check_refuses(BadCount, "many", thing, Rope, parts)
                    self.check_refuses(BadCount, "many", thing, Rope, parts=parts)
        self.check_raises(BadCount, {"many": -1}, Rope, [(EMPTY, 1)] * 59 + [(EMPTY, -1)])

    def test_what_is_no_step(self):
        for call in (self.rope.span_at, self.rope.place_of, self.rope.run_at):
            for thing in (6, 7, *NO_STEPS):
                self.check_refuses(BadStep, "step", thing, call, thing)
                self.check_refuses(BadStep, "step", thing, call, step=thing)
        self.assertEqual(self.rope.span_at(5), C)

    def test_what_is_no_line(self):
        for rope in (self.rope, Rope([])):
            for thing in NO_INTEGERS:
                if thing is not None:
                    self.check_refuses(BadLine, "line", thing, rope.count_of, thing)
                    self.check_refuses(BadLine, "line", thing, rope.count_of, line=thing)

    def test_what_is_no_range(self):
        for thing in (7, 8, *NO_STEPS):
            for end in (6, 3, None, ODD, thing):
                self.check_refuses(BadStep, "step", thing, self.rope.spans, thing, end)
                self.check_refuses(BadStep, "step", thing, self.rope.spans, end=end, start=thing)
            for start in (0, 3, 6):
                self.check_refuses(BadStep, "step", thing, self.rope.spans, start, thing)
                self.check_refuses(BadStep, "step", thing, self.rope.spans, end=thing, start=start)
        for start, end in ((1, 0), (6, 5), (6, 0), (3, 2)):
            self.check_raises(BadStep, {"step": end}, self.rope.spans, start, end)

    def test_invalid_ranges_come_before_long_ones(self):
        rope = Rope([(table_of(A), MANY)])
        self.check_raises(BadStep, {"step": MANY + 1}, rope.spans, 0, MANY + 1)
        self.check_raises(BadStep, {"step": -1}, rope.spans, -1, MANY)
        self.check_raises(BadStep, {"step": -1}, rope.spans, -1, MANY + 1)
        self.check_raises(TooLong, {}, rope.spans, 0, MANY)
        self.check_raises(TooLong, {}, rope.spans, 0, 5001)


if __name__ == "__main__":
    unittest.main()
