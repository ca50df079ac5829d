"""Point 27: programs with loops, the paths that they run, and the events of these paths."""

import copy
import itertools
import random
import unittest

from codespans.errors import BadCount, BadStep, TooLong
from codespans.loops import event_count, loop_hits, path_of
from codespans.running import hits, line_events
from codespans.tables import Table
from tests.support import MOST, NO_INTEGERS, ODD, Case, random_data, random_spans

MANY = 10 ** 12
# Steps: 0 none, 1 and 2 on line 3, 3 none, 4 on line 5, 5 and 6 on line 3, 7 on line 9, 8 none.
SPANS = [
    None, (3, 3, 0, 4), (3, 3, 5, 9), None, (5, 7, 2, 0), (3, 3, None, None), (3, 4, 1, 1), (9, 9, 0, 0), None,
]
CALLS = (path_of, loop_hits, event_count)


def written_out(program):
    """The path by the words of the document."""
    path = []
    for item in program:
        if isinstance(item, tuple):
            times, inner = item
            for _ in range(times):
                path += written_out(inner)
        else:
            path.append(item)
    return path


def nested(levels, program, times=1):
    for _ in range(levels):
        program = [(times, program)]
    return program


def random_program(rng, step_count, levels, times=(0, 1, 2, 3)):
    items = []
    for _ in range(rng.randint(0, 4)):
        if levels > 0 and rng.randrange(3) == 0:
            items.append((rng.choice(times), random_program(rng, step_count, levels - 1, times)))
        else:
            items.append(rng.randrange(step_count))
    return items


class LoopCase(Case):
    def setUp(self):
        self.table = Table.of(SPANS, 3)

    def check_program(self, table, program):
        """All three answers, against those for the path that is written out."""
        kept = copy.deepcopy(program)
        path = written_out(program)
        self.assertLessEqual(len(path), 5000)
        got = path_of(table, program)
        self.assertEqual(got, path)
        self.assertIs(type(got), list)
        rows = loop_hits(table, program)
        self.assertEqual(rows, hits(table, path))
        self.assertIs(type(rows), list)
        self.assertEqual({type(row) for row in rows} - {tuple}, set())
        count = event_count(table, program)
        self.assertEqual(count, len(line_events(table, path)))
        self.assertIs(type(count), int)
        self.assertEqual(program, kept)
        return count

    def check_counts(self, program, threes, fives, nines):
        """The answers for a program that runs too long to be written out."""
        self.assertEqual(loop_hits(self.table, program), [(3, threes), (5, fives), (9, nines)])
        self.assertEqual(event_count(self.table, program), threes + fives + nines)
        self.check_raises(TooLong, {}, path_of, self.table, program)


class PathTest(LoopCase):
    def test_without_items(self):
        for table in (self.table, Table.of([], 1), Table.of([None], 1)):
            self.assertEqual(self.check_program(table, []), 0)
            self.assertEqual(path_of(table, []), [])
            self.assertEqual(loop_hits(table, []), [(line, 0) for line in table.lines()])

    def test_without_loops(self):
        for program in ([1], [0], [8, 3], [1, 2, 3, 4], [4, 1], [1, 1, 1], [1, 0, 2], [5, 3, 5], list(range(9))):
            self.check_program(self.table, program)
            self.assertEqual(path_of(self.table, program), program)
        self.assertEqual(event_count(self.table, list(range(9))), 4)

    def test_loops_beside_one_another(self):
        self.assertEqual(path_of(self.table, [(2, [1]), 4, (3, [5, 6]), (0, [7])]), [1, 1, 4, 5, 6, 5, 6, 5, 6])
        for program in ([(2, [1]), (2, [1])], [(2, [1, 2]), (3, [4, 5])], [0, (2, [1]), 3, (2, [2]), 8, (1, [5])]):
            self.check_program(self.table, program)

    def test_loops_within_one_another(self):
        self.assertEqual(path_of(self.table, [(2, [0, (2, [1, 4]), 8])]), [0, 1, 4, 1, 4, 8] * 2)
        for program in ([(2, [(3, [(2, [1, 4])])])], [(3, [1, (2, [2, (2, [4]), 5]), 7])], [(2, [(2, [0]), (2, [3, 1])])]):
            self.check_program(self.table, program)

    def test_the_number_of_rounds(self):
        for times in (0, 1, 2, 3, 50):
            self.assertEqual(path_of(self.table, [0, (times, [1, 4]), 8]), [0] + [1, 4] * times + [8])
            for body in ([1], [1, 2], [1, 4], [4, 1], [0, 1], [1, 0], [0], [3, 1, 0, 2, 8], [2, 1], [1, 4, 5]):
                for program in ([(times, body)], [1, (times, body), 2], [8, (times, body), 0], [4, (times, body), 4]):
                    self.check_program(self.table, program)

    def test_loops_without_items(self):
        for times in (0, 1, 2, MANY):
            for program in ([(times, [])], [(times, []), 1], [1, (times, []), 2], [(times, [(times, [])])],
                            [(2, [1, (times, []), 4])], [(times, [(0, [1])])]):
                path = path_of(self.table, program)
                self.assertEqual(loop_hits(self.table, program), hits(self.table, path))
                self.assertEqual(event_count(self.table, program), len(line_events(self.table, path)))
            self.assertEqual(path_of(self.table, [1, (times, [(times, [])]), 2]), [1, 2])

    def test_loops_that_do_not_run_may_contain_much(self):
        program = [1, (0, [(MANY, [4]), (MANY, [(MANY, [7, 0])])]), 2]
        self.assertEqual(path_of(self.table, program), [1, 2])
        self.assertEqual(loop_hits(self.table, program), [(3, 1), (5, 0), (9, 0)])
        self.assertEqual(event_count(self.table, program), 1)
        program = [(MANY, [(0, [(MANY, [4])])]), 4]
        self.assertEqual(path_of(self.table, program), [4])
        self.assertEqual(event_count(self.table, program), 1)

    def test_a_loop_that_does_not_run_leaves_no_trace(self):
        for program in ([1, (0, [4]), 2], [4, (0, [1]), 5], [5, (0, [0]), 5], [1, (0, [8]), 2], [(0, [4])], [(0, [0]), 1]):
            self.check_program(self.table, program)
        self.assertEqual(event_count(self.table, [1, (0, [8]), 2]), 1)
        self.assertEqual(event_count(self.table, [1, (1, [8]), 2]), 2)

    def test_20_levels(self):
        for times in (0, 1):
            self.check_program(self.table, nested(20, [1, 4], times))
        program = [1]
        for level in range(20):
            program = [level % 9, (2 if level % 4 == 0 else 1, program), (level + 3) % 9]
        self.check_program(self.table, program)
        self.assertEqual(path_of(self.table, nested(20, [], MANY)), [])
        self.check_program(self.table, nested(30, [4], 1))

    def test_500_items(self):
        self.check_program(self.table, [k % 9 for k in range(500)])
        self.check_program(self.table, [k * 5 % 9 for k in range(500)])
        self.check_program(self.table, [(k % 3, [k % 9]) for k in range(250)])
        program = []
        for level in range(20):
            program = [*[k * level % 9 for k in range(12)], (1, program), *[k % 9 for k in range(12)]]
        self.check_program(self.table, program)

    def test_how_long_a_path_may_be(self):
        programs = [
            ([(4999, [1])], 4999), ([(2499, [1, 4]), 1], 4999), ([1] * 499 + [(4500, [1])], 4999),
            ([(5000, [1])], 5000), ([(10, [(10, [(10, [1, 2, 3, 4, 5])])])], 5000), ([(4999, [4]), 0], 5000),
            ([(5000, [8])], 5000), ([(0, [(MANY, [1])]), (5000, [1])], 5000),
        ]
        for program, length in programs:
            self.check_program(self.table, program)
            self.assertEqual(len(path_of(self.table, program)), length)
        for program in ([(5001, [1])], [(5000, [1]), 0], [0, (5000, [1])], [(10, [(10, [(10, [1, 2, 3, 4, 5])])]), 1],
                        [(3, [(1667, [8])])], [(MANY, [0])], nested(20, [1], MANY)):
            self.check_raises(TooLong, {}, path_of, self.table, program)

    def test_returned_lists_are_new(self):
        program = [1, (2, [4])]
        for call in (path_of, loop_hits):
            first = call(self.table, program)
            kept = list(first)
            first.append("more")
            self.assertEqual(call(self.table, program), kept)
        self.assertIsNot(path_of(self.table, [1]), program)
        path = [1, 4]
        got = path_of(self.table, path)
        self.assertIsNot(got, path)
        got.append(0)
        self.assertEqual(path, [1, 4])

    def test_by_name_in_any_order(self):
        program = [1, (2, [4])]
        self.assertEqual(path_of(program=program, table=self.table), [1, 4, 4])
        self.assertEqual(loop_hits(program=program, table=self.table), [(3, 1), (5, 2), (9, 0)])
        self.assertEqual(event_count(program=program, table=self.table), 3)
        self.assertEqual(event_count(self.table, program=program), 3)


class CountsTest(LoopCase):
    def test_loops_that_run_long(self):
        self.check_counts([(MANY, [1])], MANY, 0, 0)
        self.check_counts([(MANY, [1, 2])], MANY, 0, 0)
        self.check_counts([(MANY, [2, 1])], MANY + 1, 0, 0)
        self.check_counts([(MANY, [1, 4])], MANY, MANY, 0)
        self.check_counts([(MANY, [1, 4, 5])], 2 * MANY, MANY, 0)
        self.check_counts([(MANY, [7])], 0, 0, MANY)
        self.check_counts([(MANY, [0])], 0, 0, 0)
        self.check_counts([(MANY, [0, 3, 8])], 0, 0, 0)

    def test_a_step_without_a_position_hides_the_jump(self):
        self.check_counts([(MANY, [0, 1])], 1, 0, 0)
        self.check_counts([(MANY, [0, 1, 8])], 1, 0, 0)
        self.check_counts([(MANY, [1, 0])], 1, 0, 0)
        self.check_counts([(MANY, [3, 1])], MANY, 0, 0)
        self.check_counts([(MANY, [0, 1, 4])], MANY, MANY, 0)

    def test_a_first_round_unlike_the_later_ones(self):
        self.check_counts([1, (MANY, [2])], MANY, 0, 0)
        self.check_counts([4, (MANY, [5])], MANY, 1, 0)
        self.check_counts([1, (MANY, [2, 4])], MANY, MANY, 0)
        self.check_counts([1, (MANY, [0, 2])], 1, 0, 0)
        self.check_counts([4, (MANY, [0, 5])], 1, 1, 0)
        self.check_counts([8, (MANY, [0, 5])], 1, 0, 0)
        self.check_counts([2, (MANY, [1])], MANY + 1, 0, 0)
        self.check_counts([1, (MANY, [4]), 5], 2, MANY, 0)

    def test_first_rounds_within_one_another(self):
        self.check_counts([(MANY, [(MANY, [1])])], MANY ** 2, 0, 0)
        self.check_counts([1, (MANY, [2, (MANY, [5])])], MANY ** 2, 0, 0)
        self.check_counts([(MANY, [1, (MANY, [2])])], MANY * MANY, 0, 0)
        self.check_counts([(MANY, [4, (MANY, [0, 1])])], MANY, MANY, 0)
        self.check_counts([(MANY, [(MANY, [0, 1]), 4])], MANY, MANY, 0)
        self.check_counts([(MANY, [(MANY, [0, 1]), 2])], 1, 0, 0)
        self.check_counts([(MANY, [(MANY, [0]), (MANY, [1])])], (MANY - 1) * MANY + 1, 0, 0)
        self.check_counts([7, (MANY, [(2, [(MANY, [0, 1])])])], 1, 0, 1)

    def test_20_levels_of_long_loops(self):
        self.check_counts(nested(20, [1], MANY), MANY ** 20, 0, 0)
        self.check_counts(nested(20, [0, 1], MANY), 1, 0, 0)
        program = [4]
        wanted = 1
        for _ in range(20):
            program = [1, (MANY, program)]
        for _ in range(20):
            wanted *= MANY
        self.assertEqual(dict(loop_hits(self.table, program))[5], wanted)

    def test_500_items_in_20_levels(self):
        program = []
        for level in range(20):
            program = [*[k * level % 9 for k in range(12)], (MANY, program), *[k % 9 for k in range(12)]]
        rows = loop_hits(self.table, program)
        self.assertEqual(sum(count for _, count in rows), event_count(self.table, program))
        self.assertGreater(event_count(self.table, program), MANY ** 19)

    def test_counts_grow_evenly_from_the_second_round_on(self):
        """For loops that run at least once, counts are linear in the rounds of each loop."""
        rng = random.Random(27)
        for seed in range(200):
            spans = random_spans(seed, 6, 3)[:9] or [None]
            table = Table.of(spans, 1)
            bodies = [random_program(rng, len(spans), 1, (1, 2)) for _ in range(4)]

            def program(outer, inner, bodies=bodies):
                return bodies[0] + [(outer, bodies[1] + [(inner, bodies[2])])] + bodies[3]

            counts = {
                key: [many for _, many in hits(table, written_out(program(*key)))]
                for key in itertools.product((1, 2), repeat=2)
            }
            far = MANY - 1
            for at, (_, got) in enumerate(loop_hits(table, program(MANY, MANY))):
                a, b, c, d = (counts[key][at] for key in ((1, 1), (1, 2), (2, 1), (2, 2)))
                self.assertEqual(got, a + far * (b - a) + far * (c - a) + far * far * (d - b - c + a))

    def test_small_programs(self):
        rng = random.Random(28)
        for seed in range(300):
            spans = random_spans(seed, 5, 3)[:8]
            if spans:
                table = Table(random_data(seed, spans, 4), 4)
                for _ in range(8):
                    self.check_program(table, random_program(rng, len(spans), 3))

    def test_every_program_of_a_few_steps(self):
        table = Table.of([None, (1, 1, 0, 0), (1, 1, 1, 1), (2, 2, 0, 0)], 1)
        bodies = [list(steps) for many in range(3) for steps in itertools.product(range(4), repeat=many)]
        for before, body in itertools.product(bodies, bodies):
            self.check_program(table, [*before, (3, body), *before])
            self.check_program(table, [(2, [*before, (2, body)])])

    def test_a_table_of_5000_lines(self):
        spans = [(MOST - k, MOST - k, 0, 1) for k in range(5000)]
        table = Table.of(spans, 1)
        program = [0, (MANY, [1, 4999, (3, [4998])]), 2]
        wanted = {MOST: 1, MOST - 1: MANY, MOST - 4999: MANY, MOST - 4998: 3 * MANY, MOST - 2: 1}
        lines = range(MOST - 4999, MOST + 1)
        self.assertEqual(loop_hits(table, program), [(line, wanted.get(line, 0)) for line in lines])
        self.assertEqual(event_count(table, program), 5 * MANY + 2)

    def test_tables_written_apart(self):
        table = Table([128, 69, 248, 128, 69, 208, 4, 9], 5)
        self.assertEqual(loop_hits(table, [(MANY, [1, 2, 3])]), [(5, 1)])
        self.assertEqual(loop_hits(table, [(MANY, [0, 1, 2, 3])]), [(5, MANY)])


class LoopErrorsTest(LoopCase):
    def check_step_error(self, step, program, table=None):
        for call in CALLS:
            self.check_refuses(BadStep, "step", step, call, table or self.table, program)
            self.check_refuses(BadStep, "step", step, call, program=program, table=table or self.table)

    def check_times_error(self, times, program):
        for call in CALLS:
            self.check_refuses(BadCount, "many", times, call, self.table, program)
            self.check_refuses(BadCount, "many", times, call, program=program, table=self.table)

    def test_what_is_no_step(self):
        no_items = [thing for thing in NO_INTEGERS if not isinstance(thing, tuple)]
        for thing in (-1, 9, 10, 5000, 10 ** 1999, -10 ** 1999, [], [0], {}, "0", *no_items):
            for program in ([thing], [0, 8, thing], [thing, -1, None], [(1, [thing])], [(2, [0, (3, [thing])]), 99]):
                self.check_step_error(thing, program)

    def test_the_empty_table_has_no_step(self):
        for program in ([0], [(0, [0])], [(MANY, [(1, [0])])]):
            self.check_step_error(0, program, Table.of([], 1))

    def test_what_is_no_number_of_rounds(self):
        for thing in (-1, MANY + 1, 10 ** 1999, -10 ** 1999, *NO_INTEGERS):
            for program in ([(thing, [])], [(thing, [0])], [0, (thing, [1]), (-2, [])], [(1, [(thing, [1])]), -1]):
                self.check_times_error(thing, program)
        for times in (0, 1, MANY):
            self.assertEqual(path_of(self.table, [(times, [])]), [])

    def test_in_loops_that_do_not_run(self):
        for thing in (-1, 9, None, True, ODD):
            self.check_step_error(thing, [(0, [thing])])
            self.check_step_error(thing, [(0, [(0, [1, (0, [2, thing])])])])
            self.check_step_error(thing, [(0, [(MANY, [1, thing])])])
        for thing in (-1, MANY + 1, None, True, ODD):
            self.check_times_error(thing, [(0, [(thing, [0])])])
            self.check_times_error(thing, [(0, []), (0, [0, (thing, [])])])

    def test_behind_and_in_loops_that_run_long(self):
        for program in ([(MANY, [1]), 9], [(MANY, [1, 9])], [(MANY, [(MANY, [0, 8])]), (MANY, [(MANY, [9])])]):
            self.check_step_error(9, program)
        self.check_times_error(None, [(MANY, [1]), (None, [1])])
        self.check_times_error(-1, [(MANY, [(MANY, [1]), (-1, [1])])])

    def test_several_at_once_in_the_order_of_the_text(self):
        self.check_times_error(-1, [(-1, [9])])
        self.check_times_error(-1, [(-1, [(-2, [None])]), 9])
        self.check_step_error(9, [9, (-1, [10])])
        self.check_step_error(9, [(0, [9]), (-1, [10])])
        self.check_step_error(9, [(1, [(0, [0, 9]), (-1, [])]), 10])
        self.check_times_error(-1, [(1, [(0, [0]), (-1, [9])]), 10])
        self.check_step_error(None, [(2, [1, None]), True, (None, [])])
        self.check_times_error(None, [(2, [1, (None, [])]), True])

    def test_errors_of_items_come_before_a_long_path(self):
        self.check_raises(BadStep, {"step": 9}, path_of, self.table, [(5001, [1]), 9])
        self.check_raises(BadStep, {"step": 9}, path_of, self.table, [(MANY, [1]), (0, [9])])
        self.check_raises(BadCount, {"many": -1}, path_of, self.table, [(MANY, [1]), (-1, [1])])

    def test_a_program_stays_as_it_is(self):
        for program in ([1, (2, [4, (0, [])])], [1, (2, [4, 9])], [(MANY, [1]), 2], [(1, [(-1, [])])]):
            kept = copy.deepcopy(program)
            for call in CALLS:
                try:
                    call(self.table, program)
                except (BadStep, BadCount, TooLong):
                    pass
                self.assertEqual(program, kept)
        self.assertEqual(self.table.spans(), SPANS)


if __name__ == "__main__":
    unittest.main()
