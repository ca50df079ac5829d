"""Points 33 and 34: tables as rows of text, and tables of such rows."""

import unittest

from codespans.errors import BadLine, BadText
from codespans.listings import from_listing, listing
from codespans.tables import Table, shortest
from tests.support import MOST, NO_INTEGERS, ODD, Case, random_data, random_spans

A = (5, 5, 4, 9)
B = (5, 6, 4, 2)
C = (9, 9, None, None)

# What can't follow a row that ends at 3, whatever stands behind it; END is 3 in all rows here.
BAD_FORMS = [
    "", " ", "-", "none", "0-3", "0-3 ", " 0-3 none", "0-3 none ", "0-3  none", "0-3\tnone", "0-3 none\n", "\n0-3 none",
    "0-3 None", "0-3 NONE", "0-3 non", "0-3 nonee", "0-3 none none", "0-3none", "0 3 none", "0:3 none", "0_3 none",
    "0 - 3 none", "0- 3 none", "0 -3 none", "-3 none", "0- none", "0-3-3 none", "3 none", "0--3 none", "0-3 -", "0-3 :",
    "0-3 5:4", "0-3 5:4-", "0-3 -5:9", "0-3 5:4-5", "0-3 5-5:9", "0-3 5-5", "0-3 :4-5:9", "0-3 5:-5:9", "0-3 5:4-:9",
    "0-3 5:4-5:", "0-3 5:4:5:9", "0-3 5-4-5-9", "0-3 5:4-5:9-", "0-3 5:4-5:9:", "0-3 5:4-5:9-6:1", "0-3 5:4-5:9 x",
    "0-3 5:4--5:9", "0-3 5::4-5:9", "0-3 5:4-5::9", "0-3 5: 4-5:9", "0-3 5:4 -5:9", "0-3 5:4- 5:9", "0-3 5:4-5:9\n",
    "0-3 5.0", "0-3 5:4-5:9.", "0-3 5,4-5,9", "0-3 5_0", "0-3 0x5", "0-3 5e0", "0-3 x", "0-3 five", "0-3 5:x-5:9",
    "0-3 none:4-5:9", "0-3 5:none-5:none", "0-3 5:None-5:None", "(0, 3, None)",
]
SIGNS = [
    "+0-3 none", "-0-3 none", "0-+3 none", "0--3 none", "0-3 +5", "0-3 -5", "0-3 5-", "0-3 5+", "0-3 +5:4-5:9",
    "0-3 -5:4-5:9", "0-3 5:+4-5:9", "0-3 5:-4-5:9", "0-3 5:4-+5:9", "0-3 5:4--5:9", "0-3 5:4-5:+9", "0-3 5:4-5:-9",
    "0-3 5:4-5:-0", "0-3 5:-0-5:9", "0-3 5:4-5:9+", "0-3 5:4-5:9-", "0-3+ none", "0+-3 none", "0-3- none",
]
ZEROS = [
    "00-3 none", "0-03 none", "0-3 05", "0-3 00", "0-3 05:4-5:9", "0-3 5:04-5:9", "0-3 5:4-05:9", "0-3 5:4-5:09",
    "0-3 5:00-5:9", "0-3 5:00-5:00", "0-3 0000000005", "0-3 5:4-5:00000000009", "0000000000-3 none", "0-0000000003 none",
]
# Other digits than ASCII's, and signs that int takes.
STRANGE = [
    "0-3 \u0665", "\u0660-3 none", "0-\u0663 none", "0-3 5:\u0664-5:9", "0-3 \u00b2", "0-3 5:4-5:\u00b9", "0-3 \uff15",
    "0-3\u00a0none", "0\u22123 none", "0-3 5\u00a0", "0-3 1_0", "0-3 \x005",
]
INVALID_SPANS = [
    "0-3 0", "0-3 2147483648", "0-3 9999999999", "0-3 0:4-0:9", "0-3 0:4-5:9", "0-3 6:4-5:9", "0-3 5:9-5:4",
    "0-3 5:1-5:0", "0-3 2147483648:0-2147483648:0", "0-3 5:0-2147483648:0", "0-3 5:0-5:2147483648",
    "0-3 5:2147483648-6:0", "0-3 5:0-6:9999999999", "0-3 5:4-0:9",
]
LONG_NUMBERS = [
    "0-3 10000000000", "0-3 5:0-5:12345678901", "0-3 5:10000000000-6:1", "0-3 5:4-10000000000:9", "0-10000000000 none",
    "10000000000-3 none", "0-3 " + "9" * 5000, "0-3 5:4-5:" + "1" * 2000, "0-" + "9" * 9999 + " none",
]
NO_ROWS = [None, 0, True, 5.0, b"0-3 none", ["0-3 none"], ("0-3 none",), {}, {"0-3 none": 1}, ODD]


class ListingTest(Case):
    def test_the_example(self):
        self.assertEqual(listing(Table.of([(5, 5, 4, 9), None], 1)), ["0-1 5:4-5:9", "1-2 none"])

    def test_each_form(self):
        for span, text in (
            (None, "none"), (C, "9"), (A, "5:4-5:9"), (B, "5:4-6:2"), ((1, 1, 0, 0), "1:0-1:0"),
            ((1, MOST, 0, MOST), f"1:0-{MOST}:{MOST}"), ((MOST, MOST, None, None), f"{MOST}"), ((1, 1, None, None), "1"),
            ((10, 100, 1000, 20), "10:1000-100:20"),
        ):
            for steps in (1, 8, 9, 5000):
                self.assertEqual(listing(Table.of([span] * steps, 3)), [f"0-{steps} {text}"])

    def test_a_row_for_each_run(self):
        table = Table.of([None, None, A, A, A, B, C, A, None], 5)
        rows = ["0-2 none", "2-5 5:4-5:9", "5-6 5:4-6:2", "6-7 9", "7-8 5:4-5:9", "8-9 none"]
        self.assertEqual(listing(table), rows)
        self.assertEqual(listing(table=table), rows)
        self.assertEqual([type(row) for row in listing(table)], [str] * 6)

    def test_the_empty_table(self):
        for first_line in (1, MOST):
            self.assertEqual(listing(Table.of([], first_line)), [])

    def test_runs_that_were_written_in_several_entries(self):
        table = Table([128, 69, 208, 4, 9, 128, 69, 248, 255, 249], 5)
        self.assertEqual(listing(table), ["0-3 5:4-5:9", "3-14 none"])
        self.assertEqual(listing(Table.of([A] * 20 + [None] * 20, 5)), ["0-20 5:4-5:9", "20-40 none"])

    def test_a_returned_list_is_new(self):
        table = Table.of([A, None], 5)
        first = listing(table)
        first[0] = "changed"
        first.append("more")
        self.assertEqual(listing(table), ["0-1 5:4-5:9", "1-2 none"])

    def test_random_tables(self):
        for seed in range(100):
            spans = random_spans(seed)
            table = Table(random_data(seed, spans, 4), 4)
            rows = listing(table)
            self.assertEqual(len(rows), len(table.runs()))
            self.assertEqual(rows, listing(shortest(table)))
            self.assertEqual(rows, listing(Table.of(spans, 90)))
            self.assertEqual([row.split(" ")[0] for row in rows], [f"{run[0]}-{run[1]}" for run in table.runs()])


class FromListingTest(Case):
    def check_table(self, rows, first_line, spans):
        for kind in (list, tuple):
            given = kind(rows)
            table = from_listing(given, first_line)
            self.assertIs(type(table), Table)
            self.assertEqual(table.data, Table.of(spans, first_line).data)
            self.assertEqual((table.spans(), table.first_line), (spans, first_line))
            self.assertEqual(given, kind(rows))

    def test_rows_of_listing(self):
        self.check_table([], 1, [])
        self.check_table(["0-1 5:4-5:9", "1-2 none"], 1, [A, None])
        self.check_table(["0-9 none"], 3, [None] * 9)
        self.check_table(["0-5000 9"], MOST, [C] * 5000)
        self.check_table(["0-4999 9", "4999-5000 5:4-6:2"], 4, [C] * 4999 + [B])

    def test_edges_of_numbers(self):
        self.check_table(["0-1 2147483647"], 1, [(MOST, MOST, None, None)])
        self.check_table(["0-1 1:0-2147483647:0"], 1, [(1, MOST, 0, 0)])
        self.check_table(["0-1 1:2147483647-1:2147483647"], 1, [(1, 1, MOST, MOST)])
        self.check_table(["0-1 1:0-1:0", "1-2 1:9-2:0"], 1, [(1, 1, 0, 0), (1, 2, 9, 0)])
        self.check_table(["0-1 10:100-10:1000"], 1, [(10, 10, 100, 1000)])

    def test_rows_that_are_split_further(self):
        self.check_table(["0-1 5:4-5:9", "1-2 5:4-5:9", "2-9 5:4-5:9"], 5, [A] * 9)
        self.check_table(["0-3 none", "3-7 none", "7-8 9", "8-10 9"], 5, [None] * 7 + [C] * 3)
        self.check_table([f"{k}-{k + 1} none" for k in range(5000)], 5, [None] * 5000)
        self.assertEqual(list(from_listing(["0-4 none", "4-8 none"], 1).data), [255])

    def test_there_and_back(self):
        for seed in range(150):
            spans = random_spans(seed)
            for first_line in (1, 7, MOST):
                for table in (Table.of(spans, first_line), Table(random_data(seed, spans, first_line), first_line)):
                    again = from_listing(listing(table), table.first_line)
                    self.assertEqual(again.data, shortest(table).data)
                    self.assertEqual(again.first_line, first_line)
                    self.assertEqual(listing(again), listing(table))
        spans = [None if k % 7 == 0 else (k // 3 + 1, k // 3 + 1, 0, k % 30) for k in range(5000)]
        table = Table.of(spans, 1)
        self.assertEqual(from_listing(listing(table), 1).data, table.data)

    def test_by_name_in_any_order(self):
        self.assertEqual(from_listing(rows=["0-1 9"], first_line=9).spans(), [C])
        self.assertEqual(from_listing(first_line=9, rows=["0-1 9"]).first_line, 9)
        self.assertEqual(from_listing(["0-1 9"], first_line=9).data, Table.of([C], 9).data)

    def test_rows_that_are_changed_later(self):
        rows = ["0-1 9", "1-3 none"]
        table = from_listing(rows, 9)
        rows[0] = "0-1 8"
        rows.clear()
        self.assertEqual(table.spans(), [C, None, None])


class BadRowsTest(Case):
    def check_bad(self, at, rows):
        for kind in (list, tuple):
            for first_line in (1, MOST, 0, None):
                self.check_raises(BadText, {"at": at}, from_listing, kind(rows), first_line)
                self.check_raises(BadText, {"at": at}, from_listing, first_line=first_line, rows=kind(rows))

    def check_bad_row(self, row):
        """A row that is bad as the first one and, moved on behind other rows, as a later one."""
        self.check_bad(0, [row])
        self.check_bad(0, [row, "3-4 none", 5])
        if isinstance(row, str):
            row = "2-5" + row[3:] if row[:3] == "0-3" else row
        self.check_bad(1, ["0-2 none", row])
        self.check_bad(2, ["0-1 none", "1-2 none", row, "5-6 none", ""])

    def test_the_rows_are_good_without_their_faults(self):
        self.assertEqual(from_listing(["0-3 5:4-5:9"], 1).spans(), [A] * 3)
        self.assertEqual(from_listing(["0-2 none", "2-5 5:4-5:9"], 1).step_count, 5)

    def test_other_forms(self):
        for row in BAD_FORMS:
            self.check_bad_row(row)

    def test_signs(self):
        for row in SIGNS:
            self.check_bad_row(row)

    def test_leading_zeros(self):
        for row in ZEROS:
            self.check_bad_row(row)

    def test_other_digits(self):
        for row in STRANGE:
            self.check_bad_row(row)

    def test_spans_that_are_not_valid(self):
        for row in INVALID_SPANS:
            self.check_bad_row(row)

    def test_long_numbers(self):
        for row in LONG_NUMBERS:
            self.check_bad_row(row)

    def test_rows_that_are_no_strings(self):
        for row in NO_ROWS:
            self.check_bad_row(row)

    def test_starts(self):
        for row in ("1-3 none", "2-3 none", "4-5 none", "5000-5001 none"):
            self.check_bad(0, [row])
        for row in ("0-3 none", "1-3 none", "3-4 none", "4-5 none", "0-2 none", "5-6 5:4-5:9"):
            self.check_bad(1, ["0-2 none", row])
            self.check_bad(2, ["0-1 none", "1-2 9", row])
        self.check_bad(1, ["0-3 none", "0-3 none"])

    def test_ends(self):
        self.check_bad(0, ["0-0 none"])
        self.check_bad(1, ["0-3 none", "3-3 none"])
        self.check_bad(1, ["0-3 none", "3-2 none"])
        self.check_bad(1, ["0-3 none", "3-0 none"])
        for end in (5001, 5002, 9999, MOST, 9999999999):
            self.check_bad(0, [f"0-{end} none"])
            self.check_bad(1, ["0-4999 none", f"4999-{end} none"])
            self.check_bad(1, ["0-5000 none", f"5000-{end} none"])

    def test_the_first_bad_row_is_told(self):
        self.check_bad(1, ["0-1 none", "1-2 0", "x", None])
        self.check_bad(0, [None, "x"])
        self.check_bad(2, ["0-1 none", "1-2 9", "2-3 5:9-5:4", "2-3 none"])

    def test_what_is_no_list_of_rows(self):
        for thing in (None, 5, True, "", "0-1 none", b"", {}, {"0-1 none": 1}, {"0-1 none"}, iter(["0-1 none"]), range(0), ODD):
            for first_line in (1, 0, None, ODD):
                self.check_raises(BadText, {"at": -1}, from_listing, thing, first_line)
                self.check_raises(BadText, {"at": -1}, from_listing, first_line=first_line, rows=thing)

    def test_invalid_first_lines(self):
        for thing in (0, -1, MOST + 1, 10 ** 1999, -10 ** 1999, *NO_INTEGERS):
            for rows in ([], (), ["0-1 5:4-5:9"], ("0-5000 none",)):
                self.check_refuses(BadLine, "line", thing, from_listing, rows, thing)
                self.check_refuses(BadLine, "line", thing, from_listing, first_line=thing, rows=rows)

    def test_every_string_that_is_near_a_row(self):
        """All changes of one sign of a row, by the words of the document."""
        for row in ("0-3 5:4-5:9", "0-3 9", "0-3 none", "0-12 10:20-11:5"):
            for at in range(len(row) + 1):
                for sign in ["", *"0123459-: +xn\n"]:
                    for width in (0, 1):
                        self.check_by_hand(row[:at] + sign + row[at + width:])

    def check_by_hand(self, row):
        span = span_by_hand(row)
        if span == "bad":
            self.check_raises(BadText, {"at": 0}, from_listing, [row], 1)
        else:
            end, span = span
            self.assertEqual(from_listing([row], 1).spans(), [span] * end)


def number_by_hand(text):
    if text == "" or len(text) > 10 or any(sign not in "0123456789" for sign in text):
        raise ValueError
    if str(int(text)) != text:
        raise ValueError
    return int(text)


def span_by_hand(row):
    try:
        steps, position = row.split(" ")
        start, end = map(number_by_hand, steps.split("-"))
        if start != 0 or not 0 < end <= 5000:
            return "bad"
        if position == "none":
            return end, None
        if ":" not in position:
            line = number_by_hand(position)
            return (end, (line, line, None, None)) if 1 <= line <= MOST else "bad"
        first, last = position.split("-")
        line, column = map(number_by_hand, first.split(":"))
        end_line, end_column = map(number_by_hand, last.split(":"))
    except ValueError:
        return "bad"
    if not 1 <= line <= end_line <= MOST or max(column, end_column) > MOST:
        return "bad"
    return "bad" if line == end_line and end_column < column else (end, (line, end_line, column, end_column))


if __name__ == "__main__":
    unittest.main()
