"""Point 3 over the whole program: all ways to write, read, edit and ask the same table agree."""

import random
import unittest

from codespans.coders import Reader, Writer
from codespans.edits import cut, grow, insert, joined, moved, patch, patched, remove
from codespans.listings import from_listing, listing
from codespans.lookup import Index
from codespans.loops import event_count, loop_hits, path_of
from codespans.ropes import Rope
from codespans.running import coverage, hits, line_events, missing
from codespans.tables import Table, difference, rebased, shortest
from tests.support import MOST, Case, random_data, random_spans


class WholeTest(Case):
    def test_everything_writes_the_same_bytes(self):
        for seed in range(120):
            spans = random_spans(seed)
            for first_line in (1, 6, MOST):
                data = Table.of(spans, first_line).data
                table = Table(random_data(seed, spans, first_line), first_line)
                empty = Table.of([], first_line)
                half = len(spans) // 2
                writer = Writer(first_line)
                for start, end, span in table.runs():
                    writer.add(span, end - start)
                for other in (
                    shortest(table), rebased(Table.of(spans, 99), first_line), writer.table(),
                    from_listing(listing(table), first_line), insert(empty, 0, spans), insert(table, half, []),
                    joined(cut(table, 0, half), cut(table, half, len(spans))), remove(table, half, half),
                    moved(table, 5, 0, 0), Table(patched(table.data, patch(table, Table(data, first_line))), first_line),
                ):
                    self.assertEqual(other.data, data)
                    self.assertEqual(other.first_line, first_line)
                    self.assertTrue(other == table)
                    self.assertIsNone(difference(other, table))
                if spans:
                    self.assertEqual(grow(table, half, 0).data, data)

    def test_everything_answers_the_same(self):
        for seed in range(120):
            spans = random_spans(seed, 6)
            table = Table(random_data(seed, spans, 4), 4)
            index, rope, reader = Index(table, 3), Rope([(table, 1)]), Reader(4)
            entries = [entry for at in range(len(table.data)) for entry in reader.feed(table.data[at:at + 1])]
            self.assertEqual(entries, table.entries())
            self.assertEqual(reader.close().entries(), entries)
            self.assertEqual({table.step_count, rope.step_count, reader.step_count}, {len(spans)})
            self.assertEqual([index.span_at(step) for step in range(len(spans))], spans)
            self.assertEqual([rope.span_at(step) for step in range(len(spans))], spans)
            self.assertEqual(rope.spans(0, len(spans)), spans)
            self.assertEqual([span for _, _, steps, _, span in entries for _ in range(steps)], spans)
            for start, end, span in table.runs():
                for step in range(start, end):
                    self.assertEqual(rope.run_at(step), (start, end, span))
            for line in table.lines():
                steps = sum(end - start for start, end, own_line in table.line_ranges() if own_line == line)
                self.assertEqual(rope.count_of(line), steps)

    def test_ropes_and_joined_tables(self):
        for seed in range(80):
            first = Table(random_data(seed, random_spans(seed, 4), 4), 4)
            second = Table.of(random_spans(seed + 1, 4), 9)
            table = joined(joined(joined(first, first), second), first)
            rope = Rope([(first, 2), (second, 1), (first, 1)])
            self.assertEqual(rope.step_count, table.step_count)
            self.assertEqual(rope.spans(0, rope.step_count), table.spans())
            self.assertEqual([rope.run_at(start) for start, _, _ in table.runs()], table.runs())

    def test_programs_and_their_paths(self):
        rng = random.Random(3)
        for seed in range(80):
            spans = random_spans(seed, 6, 4)
            if not spans:
                continue
            table = Table(random_data(seed, spans, 4), 4)
            steps = [rng.randrange(len(spans)) for _ in range(9)]
            program = [*steps[:3], (4, [*steps[3:5], (3, steps[5:7])]), (0, steps), steps[8]]
            path = path_of(table, program)
            self.assertEqual(path, steps[:3] + (steps[3:5] + steps[5:7] * 3) * 4 + steps[8:])
            self.assertEqual(loop_hits(table, program), hits(table, path))
            self.assertEqual(event_count(table, program), len(line_events(table, path)))
            self.assertEqual(sorted(coverage(table, path) + missing(table, path)), table.lines())

    def test_an_edit_through_all_parts(self):
        """A code is edited, patched, sent in pieces, listed and looked up."""
        for seed in range(60):
            spans = random_spans(seed, 5) or [None]
            old = Table.of(spans, 4)
            new = remove(insert(old, 1, [(4, 4, 0, 7), None]), 0, 1)
            at, removed, added = patch(old, new)
            data = old.data[:at] + added + old.data[at + removed:]
            reader = Reader(4)
            reader.feed(data[:at])
            reader.feed(list(data[at:]))
            read = reader.close()
            self.assertEqual(read.data, new.data)
            self.assertEqual(from_listing(listing(read), 4).data, new.data)
            index = Index(read, 2)
            wanted = [(4, 4, 0, 7), None] + spans[1:]
            self.assertEqual([index.span_at(step) for step in range(len(wanted))], wanted)
            self.assertEqual(Rope([(read, 10 ** 12)]).span_at(read.step_count * 10 ** 11), (4, 4, 0, 7))


if __name__ == "__main__":
    unittest.main()
