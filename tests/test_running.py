"""Points 23 to 26: what a tracer, a coverage report and a debugger tell of the steps that were run."""

import random
import unittest

from codespans.errors import BadLine, BadStep
from codespans.running import breaks, coverage, hits, line_events, missing, stopped
from codespans.tables import Table
from tests.support import MOST, NO_INTEGERS, ODD, Case, random_data, random_spans

# Steps: 0 none, 1 and 2 on line 3, 3 none, 4 on line 5, 5 and 6 on line 3, 7 on line 9, 8 none.
SPANS = [
    None, (3, 3, 0, 4), (3, 3, 5, 9), None, (5, 7, 2, 0), (3, 3, None, None), (3, 4, 1, 1), (9, 9, 0, 0), None,
]
NO_PATHS = [None, 0, 1, True, "", "01", b"", b"\x00", {}, {0: 1}, {0}, set(), range(2), iter([0]), 1.0, ODD]
BY_PATH = (line_events, coverage, missing, hits)


def events_by_hand(spans, path):
    """The events by the words of the document, each found by looking back over the path."""
    found = []
    for at in range(len(path)):
        span = spans[path[at]]
        if span is None:
            continue
        earlier = [spans[step][0] for step in path[:at] if spans[step] is not None]
        if not earlier or earlier[-1] != span[0] or path[at] <= path[at - 1]:
            found.append((at, span[0]))
    return found


class RunningCase(Case):
    def check_all(self, table, path, lines):
        """Everything about a path, against the words of the document."""
        spans = table.spans()
        kept = (list(path), list(lines), table.entries())
        known = sorted({span[0] for span in spans if span is not None})
        events = events_by_hand(spans, path)
        ran = sorted({spans[step][0] for step in path if spans[step] is not None})
        halts = sorted({min(own for own in known if own >= line) for line in lines if known and known[-1] >= line})
        for kind in (list, tuple):
            self.assertEqual(line_events(table, kind(path)), events)
            self.assertEqual(coverage(table, kind(path)), ran)
            self.assertEqual(missing(table, kind(path)), [line for line in known if line not in ran])
            counts = [(line, [own for _, own in events].count(line)) for line in known]
            self.assertEqual(hits(table, kind(path)), counts)
            self.assertEqual(breaks(table, kind(lines)), halts)
            stops = [at for at, line in events if line in halts]
            self.assertEqual(stopped(table, kind(path), kind(lines)), stops)
        self.assertEqual((list(path), list(lines), table.entries()), kept)


class EventsTest(RunningCase):
    def check_events(self, path, wanted):
        table = Table.of(SPANS, 3)
        got = line_events(table, path)
        self.assertEqual(got, wanted)
        self.assertIs(type(got), list)
        self.assertEqual(got, events_by_hand(SPANS, path))
        for row in got:
            self.assertIs(type(row), tuple)

    def test_the_example(self):
        table = Table.of([(1, 1, 0, 1), (2, 2, 0, 1)], 1)
        self.assertEqual(line_events(table, [0, 1, 0, 1]), [(0, 1), (1, 2), (2, 1), (3, 2)])

    def test_a_path_without_steps(self):
        for table in (Table.of(SPANS, 3), Table.of([], 1)):
            for path in ([], ()):
                self.assertEqual(line_events(table, path), [])
                self.assertEqual(coverage(table, path), [])
                self.assertEqual(missing(table, path), table.lines())
                self.assertEqual(hits(table, path), [(line, 0) for line in table.lines()])
                self.assertEqual(stopped(table, path, [1, 5]), [])

    def test_straight_on(self):
        self.check_events(list(range(9)), [(1, 3), (4, 5), (5, 3), (7, 9)])
        self.check_events([1, 2], [(0, 3)])
        self.check_events([1, 2, 4], [(0, 3), (2, 5)])
        self.check_events([4], [(0, 5)])
        self.check_events([8], [])

    def test_steps_without_a_position(self):
        self.check_events([0, 3, 8], [])
        self.check_events([0, 1], [(1, 3)])
        self.check_events([3, 1], [(1, 3)])
        self.check_events([1, 0], [(0, 3)])
        self.check_events([1, 3, 5], [(0, 3)])
        self.check_events([1, 3, 4, 8], [(0, 3), (2, 5)])
        self.check_events([0, 0, 0, 1], [(3, 3)])

    def test_jumps_backward(self):
        self.check_events([2, 1], [(0, 3), (1, 3)])
        self.check_events([1, 2, 1, 2], [(0, 3), (2, 3)])
        self.check_events([6, 5, 2, 1], [(0, 3), (1, 3), (2, 3), (3, 3)])
        self.check_events([4, 1], [(0, 5), (1, 3)])

    def test_jumps_backward_from_a_step_without_a_position(self):
        self.check_events([1, 3, 2], [(0, 3), (2, 3)])
        self.check_events([1, 8, 5], [(0, 3), (2, 3)])
        self.check_events([5, 8, 7, 8, 7], [(0, 3), (2, 9), (4, 9)])

    def test_jumps_backward_to_a_step_without_a_position(self):
        self.check_events([1, 2, 0, 1], [(0, 3)])
        self.check_events([5, 3, 6], [(0, 3)])
        self.check_events([5, 3, 5], [(0, 3)])
        self.check_events([6, 0, 3, 5], [(0, 3)])
        self.check_events([6, 0, 3, 4], [(0, 3), (3, 5)])

    def test_jumps_forward(self):
        self.check_events([1, 5], [(0, 3)])
        self.check_events([1, 6], [(0, 3)])
        self.check_events([1, 4, 5], [(0, 3), (1, 5), (2, 3)])
        self.check_events([1, 7], [(0, 3), (1, 9)])

    def test_the_same_step_again(self):
        self.check_events([1, 1, 1], [(0, 3), (1, 3), (2, 3)])
        self.check_events([3, 3, 5, 5], [(2, 3), (3, 3)])
        self.check_events([4, 4], [(0, 5), (1, 5)])

    def test_the_line_of_a_span_of_several_lines(self):
        self.check_events([4, 6], [(0, 5), (1, 3)])

    def test_tables_written_apart(self):
        table = Table([128, 69, 248, 128, 69, 208, 4, 9], 5)
        self.assertEqual(line_events(table, [0, 1, 2, 3]), [(0, 5)])
        self.assertEqual(line_events(table, [3, 2]), [(0, 5), (1, 5)])


class LinesTest(RunningCase):
    def setUp(self):
        self.table = Table.of(SPANS, 3)

    def test_coverage_and_missing(self):
        for path, ran in (
            ([0, 3, 8], []), ([1], [3]), ([7, 4, 1], [3, 5, 9]), ([7, 7, 0, 1, 6, 7], [3, 9]), (list(range(9)), [3, 5, 9]),
        ):
            self.assertEqual(coverage(self.table, path), ran)
            self.assertEqual(missing(self.table, path), [line for line in [3, 5, 9] if line not in ran])

    def test_lines_that_only_lie_in_a_span_are_not_covered(self):
        self.assertEqual(coverage(self.table, [4, 6]), [3, 5])
        self.assertEqual(missing(self.table, [4, 6]), [9])

    def test_hits(self):
        self.assertEqual(hits(self.table, [0, 8]), [(3, 0), (5, 0), (9, 0)])
        self.assertEqual(hits(self.table, [1, 2, 4, 5, 6]), [(3, 2), (5, 1), (9, 0)])
        self.assertEqual(hits(self.table, [7, 7, 7, 1]), [(3, 1), (5, 0), (9, 3)])
        self.assertEqual(hits(self.table, [1, 2, 1, 2, 1, 2]), [(3, 3), (5, 0), (9, 0)])

    def test_lines_in_ascending_order(self):
        lines = [70, 8, MOST, 1, 300, 9, 8]
        table = Table.of([(line, line, 0, 1) for line in lines], 1)
        wanted = [1, 8, 9, 70, 300, MOST]
        self.assertEqual(coverage(table, list(range(7))), wanted)
        self.assertEqual(missing(table, []), wanted)
        self.assertEqual(hits(table, list(range(7))), [(1, 1), (8, 2), (9, 1), (70, 1), (300, 1), (MOST, 1)])
        self.assertEqual(breaks(table, [301, 1, 71, 2, 10, 9]), wanted)

    def test_a_table_without_positions(self):
        table = Table.of([None] * 9, 3)
        for function in BY_PATH:
            self.assertEqual(function(table, [0, 8, 8]), [])
        self.assertEqual(breaks(table, [1, 2]), [])
        self.assertEqual(stopped(table, [0, 8], [1]), [])

    def test_breaks(self):
        for lines, wanted in (
            ([], []), ([3], [3]), ([4], [5]), ([9, 3], [3, 9]), ([10], []), ([1, 2, 3], [3]), ([6, 4, 6, 10, 0], [3, 5, 9]),
            ([5, 5, 5], [5]), ([4, 5], [5]), ([-3, 0], [3]), ([10 ** 1999, -10 ** 1999], [3]), ([7, 8, 9], [9]),
        ):
            for kind in (list, tuple):
                got = breaks(self.table, kind(lines))
                self.assertEqual(got, wanted)
                self.assertIs(type(got), list)
            self.assertEqual(breaks(self.table, lines),
                             sorted({self.table.next_line(line) for line in lines} - {None}))
        self.assertEqual(breaks(Table.of([], 3), [1, 2]), [])

    def test_stopped(self):
        path = [0, 1, 2, 4, 5, 3, 2, 7, 8, 7]
        self.assertEqual(line_events(self.table, path), [(1, 3), (3, 5), (4, 3), (6, 3), (7, 9), (9, 9)])
        for lines, wanted in (
            ([], []), ([3], [1, 4, 6]), ([1, 2], [1, 4, 6]), ([4], [3]), ([9, 4], [3, 7, 9]), ([10], []),
            ([3, 5, 9], [1, 3, 4, 6, 7, 9]), ([5, 5, 4], [3]),
        ):
            for kind in (list, tuple):
                got = stopped(self.table, kind(path), kind(lines))
                self.assertEqual(got, wanted)
                self.assertIs(type(got), list)

    def test_random_paths(self):
        rng = random.Random(23)
        for seed in range(80):
            spans = random_spans(seed)
            if spans:
                table = Table(random_data(seed, spans, 4), 4)
                for _ in range(10):
                    path = [rng.randrange(len(spans)) for _ in range(rng.randint(0, 30))]
                    lines = [rng.randint(-1, 12) for _ in range(rng.randint(0, 4))]
                    self.check_all(table, path, lines)

    def test_paths_of_loops(self):
        rng = random.Random(24)
        for seed in range(60):
            spans = random_spans(seed, 6, 4)[:30]
            if spans:
                path = []
                step = 0
                while len(path) < 60:
                    path.append(step)
                    step += 1
                    if step == len(spans) or rng.randrange(6) == 0:
                        step = rng.randrange(len(spans))
                self.check_all(Table.of(spans, 1), path, [rng.randint(1, 4)])

    def test_5000_steps(self):
        spans = [None if k % 7 == 0 else (k // 3 + 1, k // 3 + 1, 0, k % 30) for k in range(5000)]
        table = Table.of(spans, 1)
        forward = list(range(5000))
        self.assertEqual(coverage(table, forward), table.lines())
        self.assertEqual(missing(table, forward), [])
        self.assertEqual(hits(table, forward), [(line, 1) for line in table.lines()])
        self.assertEqual(breaks(table, forward), table.lines())
        self.assertEqual(len(stopped(table, forward, forward)), len(table.lines()))
        backward = forward[::-1]
        events = [(at, spans[step][0]) for at, step in enumerate(backward) if spans[step] is not None]
        self.assertEqual(line_events(table, backward), events)
        self.assertEqual(stopped(table, backward, [5000]), [])
        self.assertEqual(stopped(table, [1] * 5000, [1]), list(range(5000)))

    def test_by_name_in_any_order(self):
        path = [1, 4, 1]
        self.assertEqual(line_events(path=path, table=self.table), [(0, 3), (1, 5), (2, 3)])
        self.assertEqual(coverage(path=path, table=self.table), [3, 5])
        self.assertEqual(missing(path=path, table=self.table), [9])
        self.assertEqual(hits(path=path, table=self.table), [(3, 2), (5, 1), (9, 0)])
        self.assertEqual(breaks(lines=[4], table=self.table), [5])
        self.assertEqual(stopped(lines=[4], path=path, table=self.table), [1])
        self.assertEqual(stopped(self.table, lines=[3], path=path), [0, 2])

    def test_lists_are_not_shared(self):
        path, lines = [1, 4, 1], [3, 4]
        asks = [lambda function=function: function(self.table, path) for function in BY_PATH]
        asks += [lambda: breaks(self.table, lines), lambda: stopped(self.table, path, lines)]
        for ask in asks:
            first = ask()
            kept = list(first)
            first.append("more")
            first[0] = "changed"
            self.assertEqual(ask(), kept)
        got = [ask() for ask in asks]
        kept = [list(rows) for rows in got]
        path.clear()
        lines.append(9)
        self.assertEqual(got, kept)


class RunningErrorsTest(RunningCase):
    def setUp(self):
        self.table = Table.of(SPANS, 3)
        self.calls = [*BY_PATH, lambda table, path: stopped(table, path, [3])]

    def test_what_is_no_path(self):
        for table in (self.table, Table.of([], 1)):
            for call in self.calls:
                for thing in NO_PATHS:
                    self.check_refuses(BadStep, "step", thing, call, table, thing)
                    self.check_refuses(BadStep, "step", thing, call, path=thing, table=table)

    def test_what_is_no_step(self):
        for call in self.calls:
            for thing in (-1, -9, 9, 10, 5000, 10 ** 1999, -10 ** 1999, *NO_INTEGERS):
                for path in ([thing], (thing,), [0, 8, thing], [thing, -1, None], (1, thing, 99, 1)):
                    self.check_refuses(BadStep, "step", thing, call, self.table, path)
            for path in ([0], (0,), [-1]):
                self.check_raises(BadStep, {"step": path[0]}, call, Table.of([], 1), path)

    def test_what_is_no_line(self):
        for table in (self.table, Table.of([], 1)):
            for thing in NO_INTEGERS:
                for lines in ([thing], (thing,), [3, -5, thing], [thing, None, "x"], (1, thing, True)):
                    self.check_refuses(BadLine, "line", thing, breaks, table, lines)
                    self.check_refuses(BadLine, "line", thing, breaks, lines=lines, table=table)
                    self.check_refuses(BadLine, "line", thing, stopped, table, [], lines)
        for thing in NO_INTEGERS:
            self.check_refuses(BadLine, "line", thing, stopped, self.table, [0, 1, 8], [9, thing, None])

    def test_several_at_once(self):
        for lines in ([None], ["x", 1], (True,), [ODD]):
            for thing in NO_PATHS:
                self.check_refuses(BadStep, "step", thing, stopped, self.table, thing, lines)
                self.check_refuses(BadStep, "step", thing, stopped, lines=lines, path=thing, table=self.table)
            for thing in (-1, 9, None, True, ODD):
                self.check_refuses(BadStep, "step", thing, stopped, self.table, [1, thing, -2], lines)
                self.check_refuses(BadStep, "step", thing, stopped, lines=lines, path=(thing,), table=self.table)


if __name__ == "__main__":
    unittest.main()
