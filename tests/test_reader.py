"""Points 31 and 32: a reader gives for pieces what the table gives for the whole data."""

import random
import unittest

from codespans.coders import Reader
from codespans.errors import BadLine, BadTable
from codespans.tables import Table
from tests.support import (
    MOST, NO_INTEGERS, ODD, Case, first_byte, groups_of, random_data, random_spans, signed_groups,
)

A = (5, 5, 4, 9)
NO_PIECES = [
    None, 5, True, "", "ab", bytearray(b"\x80\x00"), memoryview(b"\x80\x00"), {128: 0}, {128, 0}, range(128, 130),
    ODD, [256], [-1], [128, 256], (128, -1), [True], [128, False], [128, 0.0], [128, "0"], [None], [[128, 0]],
    [b"\x80"], [10 ** 1999], [-10 ** 1999], [128, ODD], [5, 256], [200, None],
]
# Each problem, behind bytes that are whole entries, with the first line, its index and its name.
DAMAGED = [
    ([5], 1, 0, "start"), ([127, 128], 1, 0, "start"), ([128, 69, 0], 1, 2, "start"), ([255, 249, 9, 200], 1, 2, "start"),
    ([128, 200], 1, 1, "inside"), ([128, 69, 128, 128], 1, 3, "inside"), ([208, 4, 255, 128], 1, 2, "inside"),
    ([255, first_byte(14, 1), 0, 0, 1, 130], 1, 5, "inside"), ([first_byte(13, 1), *[64] * 7, 128], 1, 8, "inside"),
    ([first_byte(14, 1), 3, 0, 1, 200], 1, 4, "inside"),
    ([first_byte(13, 1), *[64] * 8], 1, 8, "number"), ([248, first_byte(13, 1), *[64] * 7, 127, 5], 1, 9, "number"),
    ([first_byte(14, 1), 0, 0, *[64] * 7, 65, 0], 1, 10, "number"),
    ([first_byte(13, 1), 3], 1, 0, "line"), ([128, 69, 216, 0, 0], MOST, 2, "line"),
    ([255, first_byte(14, 2), 0, *groups_of(MOST), 1, 1], 1, 1, "line"), ([216, 9, 8], MOST, 0, "line"),
    ([208, 9, 8], 1, 0, "columns"), ([128, 69, 248, first_byte(14, 1), 0, 0, 5, 4, 128], 1, 3, "columns"),
    ([first_byte(14, 1), 0, 1, 0, 0], 1, 0, "columns"), ([first_byte(14, 1), 0, 0, 0, 1, 5], 1, 0, "columns"),
    ([first_byte(13, 1), 3, 5], 1, 0, "line"), ([208, 9, 8, 5, 200], 1, 0, "columns"),
]
WHOLE = [
    ([], 1), ([128, 69], 5), ([255, 249], 1), ([128, 69, 255, 208, 4, 9, 232, 7, 249], 5),
    ([first_byte(13, 3), *signed_groups(MOST - 1), first_byte(14, 1), *signed_groups(1 - MOST), 7, 65, 0, 67, 2], 1),
    ([first_byte(13, 1), *[64] * 7, 0, 232, 1, 232, 65, 64, 0], 5),
]


def cuts_of(data):
    """Many ways in which data can be cut: whole, byte by byte, in two at each place, with empty pieces."""
    yield [data]
    yield [data[at:at + 1] for at in range(len(data))]
    for at in range(len(data) + 1):
        yield [data[:at], data[at:]]
        yield [data[:at], [], data[at:at + 1], (), b"", data[at + 1:]]


def problem_of(data, first_line):
    """The first problem of data but "torn"."""
    try:
        Table(data, first_line)
    except BadTable as error:
        return None if error.why == "torn" else (error.at, error.why)
    return None


def whole_entries(data, first_line):
    """The entries in front of the first problem, and the index behind them."""
    for length in range(len(data), -1, -1):
        try:
            table = Table(data[:length], first_line)
        except BadTable:
            continue
        return table.entries(), length
    raise AssertionError("the empty table is always whole")


class ReaderCase(Case):
    def check_state(self, reader, step_count, pending):
        self.assertEqual((reader.step_count, reader.pending), (step_count, pending))
        self.assertEqual((type(reader.step_count), type(reader.pending)), (int, int))

    def check_pieces(self, pieces, first_line):
        """One way to cut data, against what tables say of all bytes so far; tells the first problem."""
        reader = Reader(first_line)
        fed = []
        found = []
        for piece in pieces:
            fed += piece
            problem = problem_of(fed, first_line)
            entries, behind = whole_entries(fed, first_line)
            if problem is not None:
                self.check_raises(BadTable, {"at": problem[0], "why": problem[1]}, reader.feed, piece)
                self.check_broken(reader, problem, sum(entry[2] for entry in entries))
                return problem
            got = reader.feed(piece)
            self.assertIs(type(got), list)
            found += got
            self.assertEqual(found, entries)
            self.check_state(reader, sum(entry[2] for entry in entries), len(fed) - behind)
            self.check_close(reader, fed, first_line)
        return None

    def check_close(self, reader, fed, first_line):
        kept = (reader.step_count, reader.pending)
        if reader.pending:
            self.check_raises(BadTable, {"at": len(fed), "why": "torn"}, reader.close)
        else:
            table = reader.close()
            self.assertIs(type(table), Table)
            self.assertEqual((table.data, table.first_line), (bytes(fed), first_line))
            self.assertEqual(table.entries(), Table(fed, first_line).entries())
        self.check_state(reader, *kept)

    def check_broken(self, reader, problem, step_count):
        for _ in range(2):
            self.check_state(reader, step_count, 0)
            for piece in (b"", [], [128, 69], b"\x80", [5], *NO_PIECES):
                self.check_raises(BadTable, {"at": problem[0], "why": problem[1]}, reader.feed, piece)
            self.check_raises(BadTable, {"at": problem[0], "why": problem[1]}, reader.close)


class ReaderTest(ReaderCase):
    def test_nothing_fed(self):
        reader = Reader(7)
        self.assertLessEqual({"step_count", "pending"}, set(vars(reader)))
        self.check_state(reader, 0, 0)
        self.check_close(reader, [], 7)
        for piece in ([], (), b""):
            self.assertEqual(reader.feed(piece), [])
            self.check_close(reader, [], 7)

    def test_entries_as_they_become_complete(self):
        reader = Reader(5)
        self.assertEqual(reader.feed([128]), [])
        self.check_state(reader, 0, 1)
        self.assertEqual(reader.feed([69, 255, 208, 4]), [(0, 0, 1, "short", A), (2, 1, 8, "none", None)])
        self.check_state(reader, 9, 2)
        self.assertEqual(reader.feed(b"\x09"), [(3, 9, 1, "line", A)])
        self.check_state(reader, 10, 0)
        self.assertEqual(reader.feed((232, 7)), [(6, 10, 1, "bare", (2, 2, None, None))])
        self.assertEqual(reader.feed([240, 4, 0, 1, 67]), [])
        self.check_state(reader, 11, 5)
        self.assertEqual(reader.feed([2]), [(8, 11, 1, "long", (4, 4, 0, 130))])
        self.check_state(reader, 12, 0)
        self.assertEqual(reader.close().data, bytes([128, 69, 255, 208, 4, 9, 232, 7, 240, 4, 0, 1, 67, 2]))

    def test_kinds_of_entries(self):
        for at, start, steps, name, span in Reader(5).feed([128, 69, 255]):
            self.assertEqual([type(at), type(start), type(steps), type(name)], [int, int, int, str])
            self.assertIn(span, (A, None))

    def test_every_cut_of_whole_data(self):
        for data, first_line in WHOLE:
            for kind in (bytes, list, tuple):
                for pieces in cuts_of(kind(data)):
                    self.assertIsNone(self.check_pieces(pieces, first_line))

    def test_every_cut_of_damaged_data(self):
        for data, first_line, at, why in DAMAGED:
            for pieces in cuts_of(bytes(data)):
                self.assertEqual(self.check_pieces(pieces, first_line), (at, why))
            for kind in (list, tuple):
                self.assertEqual(self.check_pieces([kind(data)], first_line), (at, why))

    def test_every_cut_of_torn_data(self):
        for data, first_line in WHOLE:
            for length in range(len(data)):
                for pieces in cuts_of(data[:length]):
                    self.assertIsNone(self.check_pieces(pieces, first_line))

    def test_a_problem_is_told_as_soon_as_the_bytes_show_it(self):
        for data, first_line, at, why in DAMAGED:
            reader = Reader(first_line)
            for k, byte in enumerate(data):
                try:
                    reader.feed([byte])
                except BadTable as error:
                    self.assertEqual((error.at, error.why), (at, why))
                    if why in ("start", "inside", "number"):
                        self.assertEqual(k, at)
                    break
            else:
                self.fail("no problem was told")

    def test_steps_ahead_of_a_problem_count(self):
        for piece, steps in (([255, 128, 69, 5], 9), ([255, 249, 128, 200], 10), ([5], 0), ([129, 69, 208, 9, 8], 2)):
            reader = Reader(5)
            self.assertRaises(BadTable, reader.feed, piece)
            self.check_state(reader, steps, 0)
        reader = Reader(5)
        reader.feed([255, 208, 4])
        self.check_state(reader, 8, 2)
        self.assertRaises(BadTable, reader.feed, [128])
        self.check_state(reader, 8, 0)

    def test_close_in_the_middle_and_on(self):
        reader = Reader(5)
        reader.feed([128])
        for _ in range(2):
            self.check_raises(BadTable, {"at": 1, "why": "torn"}, reader.close)
            self.check_state(reader, 0, 1)
        self.assertEqual(reader.feed([69, 240, 4, 64]), [(0, 0, 1, "short", A)])
        self.check_raises(BadTable, {"at": 5, "why": "torn"}, reader.close)
        self.assertEqual(reader.feed([0, 1, 67, 2]), [(2, 1, 1, "long", (7, 7, 0, 130))])
        first = reader.close()
        self.assertEqual(reader.close().data, first.data)
        self.assertEqual(reader.feed([255]), [(9, 2, 8, "none", None)])
        self.assertEqual((first.step_count, reader.close().step_count), (2, 10))
        self.check_raises(BadTable, {"at": 10, "why": "start"}, reader.feed, [1])
        self.check_raises(BadTable, {"at": 10, "why": "start"}, reader.close)

    def test_what_is_no_byte_data(self):
        reader = Reader(5)
        for fed, steps, pending in (([], 0, 0), ([128], 0, 1), ([69], 1, 0), ([255, 240, 4, 64], 9, 3)):
            reader.feed(fed)
            for thing in NO_PIECES:
                self.check_raises(BadTable, {"at": -1, "why": "data"}, reader.feed, thing)
                self.check_raises(BadTable, {"at": -1, "why": "data"}, reader.feed, piece=thing)
                self.check_state(reader, steps, pending)
        self.assertEqual(reader.feed([0, 1, 67, 2]), [(3, 9, 1, "long", (7, 7, 0, 130))])
        self.assertEqual(reader.close().step_count, 10)

    def test_two_readers_by_turns(self):
        first, second = Reader(5), Reader(90)
        self.assertEqual(first.feed([128]), [])
        self.assertEqual(second.feed([255, 208]), [(0, 0, 8, "none", None)])
        self.assertEqual(first.feed([69]), [(0, 0, 1, "short", A)])
        self.assertRaises(BadTable, first.feed, [3])
        self.assertEqual(second.feed([4, 9]), [(1, 8, 1, "line", (90, 90, 4, 9))])
        self.check_broken(first, (2, "start"), 1)
        self.check_state(second, 9, 0)
        self.assertEqual(second.close().first_line, 90)

    def test_lists_are_not_shared(self):
        reader = Reader(5)
        piece = [128, 69, 128]
        got = reader.feed(piece)
        piece[0] = 255
        piece.clear()
        got[0] = "changed"
        got.append("more")
        self.assertEqual(reader.feed([5]), [(2, 1, 1, "short", (5, 5, 0, 5))])
        self.assertEqual(reader.close().data, bytes([128, 69, 128, 5]))
        self.assertEqual(reader.close().entries()[0], (0, 0, 1, "short", A))

    def test_arguments_stay_as_they_are(self):
        for piece in ([128, 69, 255], [128], [128, 69, 5], [256, 0]):
            kept = list(piece)
            try:
                Reader(5).feed(piece)
            except BadTable:
                pass
            self.assertEqual(piece, kept)

    def test_invalid_first_lines(self):
        for thing in (0, -1, MOST + 1, 10 ** 1999, -10 ** 1999, *NO_INTEGERS):
            self.check_refuses(BadLine, "line", thing, Reader, thing)
            self.check_refuses(BadLine, "line", thing, Reader, first_line=thing)

    def test_by_name(self):
        reader = Reader(first_line=5)
        self.assertEqual(reader.feed(piece=[128, 69]), [(0, 0, 1, "short", A)])

    def test_random_tables_and_damages(self):
        rng = random.Random(31)
        for seed in range(150):
            data = random_data(seed, random_spans(seed, 3), 4)
            for damaged in (data, *[damage(rng, data) for _ in range(4)]):
                pieces = []
                rest = damaged
                while rest:
                    length = rng.randint(0, 4)
                    pieces.append(rng.choice([bytes, list, tuple])(rest[:length]))
                    rest = rest[length:]
                self.assertEqual(self.check_pieces(pieces, 4), problem_of(damaged, 4))

    def test_5000_entries_byte_by_byte(self):
        spans = [(k // 3 + 1, k // 3 + 1 + k % 2, k % 90, k % 90 + k % 20) for k in range(5000)]
        table = Table(random_data(1, spans, 1), 1)
        reader = Reader(1)
        entries = []
        for byte in table.data:
            entries += reader.feed([byte])
        self.assertEqual(entries, table.entries())
        self.check_state(reader, 5000, 0)
        self.assertEqual(reader.close().data, table.data)


def damage(rng, data):
    changed = list(data)
    for _ in range(rng.randint(1, 3)):
        at = rng.randint(0, len(changed))
        changed[at:at + rng.randint(0, 2)] = [rng.randrange(256) for _ in range(rng.randint(0, 2))]
    return bytes(changed)


if __name__ == "__main__":
    unittest.main()
