"""Point 16: the smallest change between the data of two tables."""

import random
import unittest

from codespans.edits import grow, insert, patch, patched, remove
from codespans.errors import BadTable
from codespans.tables import Table
from tests.support import ODD, Case, random_data, random_spans

NO_DATA = [
    None, 0, 128, True, "", "abc", bytearray(b"\xff"), memoryview(b"\xff"), {}, {255: 1}, {255}, range(3), ODD,
    [256], [-1], [255, 256], (255, -1), [None], ["a"], [1.0], [True], (False,), [b"\xff"], [[255]], [10 ** 1999],
    iter([255]),
]


def patch_by_hand(old, new):
    """The patch by the words of the document, all lengths tried one by one."""
    at = 0
    while old[:at + 1] == new[:at + 1] and at < min(len(old), len(new)):
        at += 1
    for removed in range(len(old) - at + 1):
        size = removed + len(new) - len(old)
        if size >= 0 and old[:at] + new[at:at + size] + old[at + removed:] == new:
            return at, removed, new[at:at + size]
    raise AssertionError("no patch at all")


class PatchCase(Case):
    def check_patch(self, old, new, wanted=None):
        kept = (old.data, old.first_line, new.data, new.first_line)
        change = patch(old, new)
        self.assertIs(type(change), tuple)
        self.assertEqual([type(part) for part in change], [int, int, bytes])
        self.assertEqual(change, patch_by_hand(old.data, new.data) if wanted is None else wanted)
        for data in (old.data, list(old.data), tuple(old.data)):
            got = patched(data, change)
            self.assertIs(type(got), bytes)
            self.assertEqual(got, new.data)
        self.assertEqual((old.data, old.first_line, new.data, new.first_line), kept)


class PatchTest(PatchCase):
    def check_data(self, old, new, wanted):
        self.check_patch(Table(old, 9), Table(new, 9), wanted)

    def test_the_example(self):
        table = Table.of([(1, 1, 0, 1), (1, 1, 0, 1)], 1)
        self.check_patch(table, grow(table, 0, 1), (0, 1, b"\x82"))

    def test_the_same_data(self):
        for data in ([], [255], [128, 69, 248, 255]):
            self.check_data(data, data, (len(data), 0, b""))
        self.check_patch(Table([248], 1), Table([248], 7), (1, 0, b""))

    def test_the_beginning_of_the_other(self):
        self.check_data([], [255, 248], (0, 0, b"\xff\xf8"))
        self.check_data([255, 248], [], (0, 2, b""))
        self.check_data([128, 69], [128, 69, 248, 250], (2, 0, b"\xf8\xfa"))
        self.check_data([128, 69, 248, 250], [128, 69], (2, 2, b""))

    def test_the_end_of_the_other(self):
        self.check_data([248, 250], [128, 69, 248, 250], (0, 0, b"\x80\x45"))
        self.check_data([128, 69, 248, 250], [248, 250], (0, 2, b""))

    def test_between(self):
        self.check_data([248, 249, 250], [248, 251, 250], (1, 1, b"\xfb"))
        self.check_data([248, 249, 250], [248, 250], (1, 1, b""))
        self.check_data([248, 250], [248, 249, 250], (1, 0, b"\xf9"))
        self.check_data([248, 249, 250], [251, 252, 253], (0, 3, b"\xfb\xfc\xfd"))
        self.check_data([128, 69], [130, 69], (0, 1, b"\x82"))

    def test_repeated_bytes(self):
        self.check_data([255] * 3, [255] * 5, (3, 0, b"\xff\xff"))
        self.check_data([255] * 5, [255] * 3, (3, 2, b""))
        self.check_data([248, 255, 255, 249], [248, 255, 249], (2, 1, b""))
        self.check_data([248, 255, 249], [248, 255, 255, 249], (2, 0, b"\xff"))
        self.check_data([248, 249, 248], [248, 249, 248, 249, 248], (3, 0, b"\xf9\xf8"))
        self.check_data([248, 249, 248, 249, 248], [248, 249, 248], (3, 2, b""))
        self.check_data([248, 249, 249], [249, 249, 248], (0, 3, b"\xf9\xf9\xf8"))

    def test_by_name_in_any_order(self):
        old, new = Table([248, 249], 1), Table([248, 250, 249], 1)
        self.assertEqual(patch(new=new, old=old), (1, 0, b"\xfa"))
        self.assertEqual(patch(old, new=new), (1, 0, b"\xfa"))
        self.assertEqual(patched(change=(1, 0, b"\xfa"), data=[248, 249]), new.data)

    def test_random_data(self):
        rng = random.Random(16)
        for _ in range(1500):
            old = [rng.choice([248, 249, 255]) for _ in range(rng.randint(0, 7))]
            new = [rng.choice([248, 249, 255]) for _ in range(rng.randint(0, 7))]
            self.check_patch(Table(old, 1), Table(new, 1))

    def test_there_and_back(self):
        for seed in range(60):
            spans = random_spans(seed)
            table = Table(random_data(seed, spans, 4), 4)
            others = [insert(table, len(spans) // 2, [(4, 4, 1, 2)]), remove(table, 0, len(spans) // 3),
                      Table.of(random_spans(seed + 1), 4)]
            for other in others:
                self.check_patch(table, other)
                self.check_patch(other, table)

    def test_5000_steps(self):
        spans = [(k + 1, k + 1, 0, 1) for k in range(5000)]
        table = Table.of(spans, 1)
        new = insert(table, 2500, [None])
        self.assertEqual(patch(table, new), (7499, 0, b"\xf8"))
        self.assertEqual(patched(table.data, (7499, 0, b"\xf8")), new.data)
        self.assertEqual(patch(table, Table.of([], 1)), (0, 14999, b""))


class PatchedTest(PatchCase):
    def test_data_that_is_passed_is_kept(self):
        data = [248, 249, 250]
        got = patched(data, (1, 1, b"\xff"))
        self.assertEqual(data, [248, 249, 250])
        data[0] = 1
        self.assertEqual(got, b"\xf8\xff\xfa")

    def test_what_is_no_byte_data(self):
        for thing in NO_DATA:
            for change in ((0, 0, b""), (0, 1, b"\xff")):
                self.check_raises(BadTable, {"at": -1, "why": "data"}, patched, thing, change)
                self.check_raises(BadTable, {"at": -1, "why": "data"}, patched, change=change, data=thing)


if __name__ == "__main__":
    unittest.main()
