"""Points 10 to 12: what a table tells of its steps and lines."""

import unittest

from codespans.errors import BadCount, BadLine, BadStep
from codespans.tables import Table
from tests.support import MOST, NO_INTEGERS, ODD, Case, first_byte, random_data, random_spans

# Eleven steps: without a position first, between and last, neighbours that are written apart.
SPANS = [
    None, None, (5, 5, 4, 9), (5, 5, 4, 9), (5, 5, None, None), None, (5, 7, 2, 3), (9, 9, 0, 0),
    (5, 5, 4, 9), None, None,
]
DATA = bytes([
    248, 248, 128, 69, 128, 69, 232, 0, 248, 240, 0, 2, 3, 4, 240, 8, 0, 1, 1, 240, 9, 0, 5, 10, 249,
])


def ranges_by_hand(keys):
    """The maximal ranges of equal neighbours, found step by step."""
    found = []
    for step, key in enumerate(keys):
        if found and found[-1][2] == key:
            found[-1] = (found[-1][0], step + 1, key)
        else:
            found.append((step, step + 1, key))
    return found


def covers_by_hand(span, line, column):
    if span is None or span[2] is None:
        return False
    if line < span[0] or line > span[1]:
        return False
    if line == span[0] and column < span[2]:
        return False
    return line < span[1] or column < span[3]


class StepsTest(Case):
    def setUp(self):
        self.table = Table(DATA, 5)

    def test_attributes(self):
        for table in (self.table, Table(list(DATA), 5), Table(tuple(DATA), 5)):
            self.assertEqual(table.data, DATA)
            self.assertIs(type(table.data), bytes)
            self.assertEqual(table.first_line, 5)
            self.assertEqual(table.step_count, 11)

    def test_attributes_are_set_on_each_object(self):
        for table in (self.table, Table.of(SPANS, 5), Table(b"", 1)):
            for name in ("data", "first_line", "step_count"):
                self.assertIn(name, vars(table))

    def test_span_at(self):
        for step, span in enumerate(SPANS):
            self.assertEqual(self.table.span_at(step), span)
            self.assertEqual(self.table.span_at(step=step), span)

    def test_steps_that_are_none(self):
        for step in (-1, -11, 11, 12, 5000, 10 ** 1999, -10 ** 1999):
            self.check_raises(BadStep, {"step": step}, self.table.span_at, step)
        for thing in NO_INTEGERS:
            with self.assertRaises(BadStep) as caught:
                self.table.span_at(thing)
            self.assertIs(caught.exception.step, thing)

    def test_spans(self):
        self.assertEqual(self.table.spans(), SPANS)
        self.assertIs(type(self.table.spans()), list)
        self.assertIs(type(self.table.spans()[2]), tuple)

    def test_runs(self):
        self.assertEqual(self.table.runs(), [
            (0, 2, None), (2, 4, (5, 5, 4, 9)), (4, 5, (5, 5, None, None)), (5, 6, None),
            (6, 7, (5, 7, 2, 3)), (7, 8, (9, 9, 0, 0)), (8, 9, (5, 5, 4, 9)), (9, 11, None),
        ])

    def test_neighbours_that_were_written_apart_are_one_run(self):
        table = Table([128, 69, 135, 69, 208, 4, 9, 248, 255, 249], 5)
        self.assertEqual(table.runs(), [(0, 10, (5, 5, 4, 9)), (10, 21, None)])
        self.assertEqual(table.line_ranges(), [(0, 10, 5), (10, 21, None)])
        self.assertEqual(table.stops(5), [0])
        self.assertEqual(table.covering(5, 4), [(0, 10)])
        self.assertEqual([entry[2] for entry in table.entries()], [1, 8, 1, 1, 8, 2])

    def test_entries(self):
        self.assertEqual(self.table.entries(), [
            (0, 0, 1, "none", None), (1, 1, 1, "none", None), (2, 2, 1, "short", (5, 5, 4, 9)),
            (4, 3, 1, "short", (5, 5, 4, 9)), (6, 4, 1, "bare", (5, 5, None, None)),
            (8, 5, 1, "none", None), (9, 6, 1, "long", (5, 7, 2, 3)), (14, 7, 1, "long", (9, 9, 0, 0)),
            (19, 8, 1, "long", (5, 5, 4, 9)), (24, 9, 2, "none", None),
        ])

    def test_the_names_of_all_forms(self):
        names = ["short"] * 10 + ["line"] * 3 + ["bare", "long", "none"]
        further = [[20]] * 10 + [[9, 10]] * 3 + [[0], [0, 0, 0, 0], []]
        for form in range(16):
            for steps in range(1, 9):
                entries = Table([255, first_byte(form, steps), *further[form]], 3).entries()
                self.assertEqual(entries[1][:4], (1, 8, steps, names[form]))

    def test_kinds_of_rows(self):
        for rows in (self.table.runs(), self.table.entries(), self.table.line_ranges(),
                     self.table.covering(5, 4)):
            self.assertIs(type(rows), list)
            for row in rows:
                self.assertIs(type(row), tuple)

    def test_the_empty_table(self):
        for table in (Table(b"", 3), Table.of([], 3)):
            self.assertEqual((table.data, table.first_line, table.step_count), (b"", 3, 0))
            for rows in (table.spans(), table.runs(), table.entries(), table.line_ranges(),
                         table.lines(), table.stops(3), table.covering(3, 0)):
                self.assertEqual(rows, [])
                self.assertIs(type(rows), list)
            self.assertIs(table.next_line(1), None)
            for step in (0, -1, 1):
                self.check_raises(BadStep, {"step": step}, table.span_at, step)


class LinesTest(Case):
    def setUp(self):
        self.table = Table(DATA, 5)

    def test_line_ranges(self):
        self.assertEqual(self.table.line_ranges(), [
            (0, 2, None), (2, 5, 5), (5, 6, None), (6, 7, 5), (7, 8, 9), (8, 9, 5), (9, 11, None),
        ])

    def test_lines(self):
        self.assertEqual(self.table.lines(), [5, 9])
        spans = [(MOST, MOST, 0, 0), (3, 8, 0, 0), None, (1, 1, None, None), (20, 20, 1, 1), (3, 3, 0, 0)]
        self.assertEqual(Table.of(spans, 1).lines(), [1, 3, 20, MOST])
        self.assertEqual(Table.of([None] * 9, 1).lines(), [])

    def test_lines_in_spans_of_several_lines_are_not_listed(self):
        table = Table.of([(2, 6, 0, 0)], 1)
        self.assertEqual(table.lines(), [2])
        self.assertEqual(table.stops(4), [])
        self.assertEqual(table.stops(6), [])
        self.assertIs(table.next_line(3), None)

    def test_stops(self):
        self.assertEqual(self.table.stops(5), [2, 6, 8])
        self.assertEqual(self.table.stops(9), [7])
        self.assertEqual(self.table.stops(line=9), [7])
        self.assertEqual(Table.of([(1, 1, 0, 1), (1, 1, 1, 2), (2, 2, 0, 0), (1, 1, 0, 0)], 1).stops(1), [0, 3])

    def test_next_line(self):
        for line, wanted in ((1, 5), (5, 5), (6, 9), (8, 9), (9, 9), (10, None), (0, 5), (-5, 5)):
            self.assertEqual(self.table.next_line(line), wanted)
        self.assertEqual(self.table.next_line(line=6), 9)
        self.assertIs(Table.of([None], 7).next_line(1), None)

    def test_lines_that_no_span_has(self):
        for line in (0, -1, 1, 4, 6, 7, 10, MOST, MOST + 1, 10 ** 1999, -10 ** 1999):
            self.assertEqual(self.table.stops(line), [])
        self.assertIs(self.table.next_line(10 ** 1999), None)
        self.assertIs(self.table.next_line(MOST + 1), None)
        self.assertEqual(self.table.next_line(-10 ** 1999), 5)

    def test_no_integers(self):
        for thing in NO_INTEGERS:
            for ask in (self.table.stops, self.table.next_line, Table(b"", 1).stops, Table(b"", 1).next_line):
                with self.assertRaises(BadLine) as caught:
                    ask(thing)
                self.assertIs(caught.exception.line, thing)


class CoveringTest(Case):
    def test_the_ends_of_one_line(self):
        table = Table.of([(5, 5, 4, 9)], 5)
        for column, wanted in ((3, []), (4, [(0, 1)]), (8, [(0, 1)]), (9, []), (10, []), (-1, [])):
            self.assertEqual(table.covering(5, column), wanted)
        for line in (4, 6):
            for column in (0, 4, 8):
                self.assertEqual(table.covering(line, column), [])

    def test_the_ends_of_several_lines(self):
        table = Table.of([(5, 7, 4, 2)], 5)
        inside = [(5, 4), (5, 5), (5, 10 ** 1999), (6, 0), (6, 3), (6, -1), (6, 10 ** 9), (7, 0), (7, 1), (7, -1)]
        outside = [(5, 3), (5, 0), (5, -1), (4, 9), (7, 2), (7, 3), (8, 0), (8, -1), (0, 5), (-1, 5)]
        for line, column in inside:
            self.assertEqual(table.covering(line, column), [(0, 1)], (line, column))
        for line, column in outside:
            self.assertEqual(table.covering(line, column), [], (line, column))

    def test_spans_that_cover_nothing(self):
        table = Table.of([None, (5, 5, None, None), (5, 5, 4, 4)], 5)
        for column in range(-1, 9):
            self.assertEqual(table.covering(5, column), [])

    def test_an_end_column_of_zero(self):
        table = Table.of([(5, 6, 4, 0)], 5)
        self.assertEqual(table.covering(5, 99), [(0, 1)])
        self.assertEqual(table.covering(6, 0), [])
        self.assertEqual(table.covering(6, -1), [(0, 1)])

    def test_ranges_join_different_spans(self):
        self.assertEqual(Table.of([(1, 1, 0, 4), (1, 1, 2, 6)], 1).covering(1, 3), [(0, 2)])
        spans = [(1, 1, 0, 4), (1, 2, 0, 0), None, (1, 1, 3, 4), (1, 1, 4, 5), (1, 1, 0, 9)]
        table = Table.of(spans, 1)
        self.assertEqual(table.covering(1, 3), [(0, 2), (3, 4), (5, 6)])
        self.assertEqual(table.covering(1, 4), [(1, 2), (4, 6)])
        self.assertEqual(table.covering(line=1, column=9), [(1, 2)])

    def test_very_large_places(self):
        table = Table.of([(MOST, MOST, 0, MOST), (1, MOST, MOST, MOST)], 1)
        self.assertEqual(table.covering(MOST, MOST - 1), [(0, 2)])
        self.assertEqual(table.covering(MOST, MOST), [])
        self.assertEqual(table.covering(MOST + 1, 0), [])
        self.assertEqual(table.covering(1, MOST), [(1, 2)])
        self.assertEqual(table.covering(1, MOST - 1), [])
        self.assertEqual(table.covering(10 ** 1999, -10 ** 1999), [])

    def test_invalid_arguments(self):
        for table in (Table.of([(5, 5, 4, 9)], 5), Table(b"", 1)):
            for thing in NO_INTEGERS:
                with self.assertRaises(BadLine) as caught:
                    table.covering(thing, 4)
                self.assertIs(caught.exception.line, thing)
                with self.assertRaises(BadLine) as caught:
                    table.covering(thing, thing)
                self.assertIs(caught.exception.line, thing)
                with self.assertRaises(BadCount) as caught:
                    table.covering(5, thing)
                self.assertIs(caught.exception.many, thing)
        self.check_raises(BadLine, {"line": "x"}, Table(b"", 1).covering, "x", ODD)


class AllQuestionsTest(Case):
    def check_answers(self, table, spans):
        self.assertEqual(table.spans(), spans)
        self.assertEqual(table.runs(), ranges_by_hand(spans))
        lines = [span and span[0] for span in spans]
        ranges = ranges_by_hand(lines)
        self.assertEqual(table.line_ranges(), ranges)
        known = sorted(set(lines) - {None})
        self.assertEqual(table.lines(), known)
        for line in range(-1, 14):
            self.assertEqual(table.stops(line), [row[0] for row in ranges if row[2] == line])
            behind = [one for one in known if one >= line]
            self.assertEqual(table.next_line(line), behind[0] if behind else None)
            for column in (-1, 0, 1, 7, 8, 15, 80, 100, 128):
                keys = [covers_by_hand(span, line, column) for span in spans]
                wanted = [row[:2] for row in ranges_by_hand(keys) if row[2]]
                self.assertEqual(table.covering(line, column), wanted)

    def check_entries(self, table, spans):
        at = 0
        start = 0
        for row in table.entries():
            self.assertEqual(row[:2], (at, start))
            self.assertEqual([row[4]] * row[2], spans[start:start + row[2]])
            start += row[2]
            at += 1
            while at < len(table.data) and table.data[at] < 128:
                at += 1
        self.assertEqual((at, start), (len(table.data), len(spans)))

    def test_random_tables(self):
        for seed in range(100):
            spans = random_spans(seed)
            for table in (Table.of(spans, 4), Table(random_data(seed, spans, 4), 4)):
                self.check_answers(table, spans)
                self.check_entries(table, spans)
                for step in range(len(spans)):
                    self.assertEqual(table.span_at(step), spans[step])

    def test_5000_steps(self):
        spans = [None if k % 7 == 0 else (k % 11 + 1, k % 11 + 1, 0, k % 30) for k in range(5000)]
        table = Table.of(spans, 1)
        self.check_answers(table, spans)
        self.check_entries(table, spans)
        self.assertEqual(table.span_at(4999), spans[4999])
        self.check_raises(BadStep, {"step": 5000}, table.span_at, 5000)

    def test_returned_lists_are_new(self):
        table = Table(DATA, 5)
        asks = [
            table.spans, table.runs, table.entries, table.line_ranges, table.lines,
            lambda: table.stops(5), lambda: table.covering(5, 4),
        ]
        for ask in asks:
            first = ask()
            kept = list(first)
            first[0] = "changed"
            first.append("more")
            self.assertEqual(ask(), kept)
            first.clear()
            self.assertEqual(ask(), kept)
        self.check_answers(table, SPANS)
        self.check_entries(table, SPANS)

    def test_a_call_that_raises_changes_nothing(self):
        table = Table(DATA, 5)
        before = table.entries()
        for thing in NO_INTEGERS:
            self.assertRaises(BadStep, table.span_at, thing)
            self.assertRaises(BadLine, table.stops, thing)
            self.assertRaises(BadLine, table.next_line, thing)
            self.assertRaises(BadLine, table.covering, thing, 1)
            self.assertRaises(BadCount, table.covering, 1, thing)
        self.assertEqual((table.data, table.first_line, table.step_count), (DATA, 5, 11))
        self.assertEqual(table.entries(), before)
        self.check_answers(table, SPANS)


if __name__ == "__main__":
    unittest.main()
