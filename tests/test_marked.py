"""Point 22: all lines of a span, with the characters that are marked below each."""

import random
import unittest

from codespans.drawing import marked
from codespans.errors import BadCount, BadSpan
from tests.support import MOST, ODD, Case
from tests.test_spans import NO_SPANS


def marked_by_hand(span, lines):
    """The rows by the words of the document, character by character."""
    _, _, column, end_column = span
    texts = list(lines)
    for at in range(len(texts)):
        while texts[at] and texts[at][-1] in (" ", "\t"):
            texts[at] = texts[at][:-1]
    leads = [[sign in (" ", "\t") for sign in text].index(False) if text else None for text in texts]
    margin = min([lead for lead in leads if lead is not None] or [0])
    rows = []
    for at, text in enumerate(texts):
        if len(texts) > 5 and 2 <= at < len(texts) - 2:
            if at == 2:
                rows.append(f"    ...<{len(texts) - 4} lines>...")
            continue
        rows.append("    " + text[margin:])
        marks = ""
        for place in range(len(text)):
            good = place >= leads[at]
            if at == 0 and place < column:
                good = False
            if at == len(texts) - 1 and place >= end_column:
                good = False
            marks += "^" if good else " "
        if "^" in marks:
            rows.append("    " + marks[margin:].rstrip(" "))
    return rows


class MarkedTest(Case):
    def check(self, wanted, span, lines):
        kept = list(lines)
        got = marked(span, lines)
        self.assertEqual(got, wanted)
        self.assertEqual(got, marked_by_hand(span, lines))
        self.assertIs(type(got), list)
        for row in got:
            self.assertIs(type(row), str)
        self.assertEqual(lines, kept)

    def test_the_example(self):
        self.check(["    if a:", "        ^", "        b"], (1, 2, 4, 3), ["if a:", "    b"])

    def test_one_line(self):
        self.check(["    a = b", "        ^"], (7, 7, 4, 5), ["a = b"])
        self.check(["    a = b", "    ^^^^^"], (7, 7, 0, 5), ["a = b"])
        self.check(["    a = b", "      ^"], (7, 7, 4, 5), ["  a = b  "])
        self.check(["    a = b", "     ^"], (7, 7, 2, 3), ["\ta = b\t"])
        self.check(["    a = b"], (7, 7, 2, 2), ["a = b"])

    def test_several_lines(self):
        self.check(["    f(", "     ^", "        a,", "        ^^", "    )", "    ^"],
                   (3, 5, 1, 1), ["f(", "    a,", ")"])
        self.check(["    f(", "    ^^", "        a)", "        ^"], (3, 4, 0, 5), ["f(", "    a)"])
        self.check(["    f(", "    ^^", "    a)", "    ^^"], (3, 4, 4, 6), ["    f(", "    a)"])

    def test_columns_in_the_margin(self):
        for column in range(5):
            self.check(["    f(", "    ^^", "     a)", "     ^"], (3, 4, column, 6), ["    f(", "     a)"])
        for end_column in range(6):
            self.check(["    f(", "     ^", "     a)"], (3, 4, 5, end_column), ["    f(", "     a)"])
        self.check(["    a"], (1, 1, 0, 2), ["  a"])
        self.check(["    a", "    ^"], (1, 1, 0, 3), ["  a"])

    def test_columns_in_blanks_behind_the_margin(self):
        self.check(["      a", "      ^", "    b", "    ^"], (1, 2, 3, 9), ["    a", "  b"])
        self.check(["      a", "      ^", "    b"], (1, 2, 1, 1), ["    a", "  b"])
        self.check(["    a", "    ^", "      b"], (1, 2, 0, 2), ["a", "  b"])

    def test_columns_behind_the_end(self):
        for column in (3, 4, 5, 99, MOST):
            self.check(["    abc", "    de", "    ^"], (1, 2, column, 1), ["abc  ", "de"])
        for end_column in (2, 3, 4, MOST):
            self.check(["    abc", "      ^", "    de", "    ^^"], (1, 2, 2, end_column), ["abc", "de \t "])
        self.check(["    abc"], (1, 1, 3, MOST), ["abc   "])
        self.check(["    abc"], (1, 1, MOST, MOST), ["abc"])
        self.check(["    abc", "      ^"], (1, 1, 2, MOST), ["abc"])

    def test_an_end_column_of_zero(self):
        self.check(["    abc", "     ^^", "    de"], (1, 2, 1, 0), ["abc", "de"])
        self.check(["    abc"], (1, 1, 0, 0), ["abc"])

    def test_margins(self):
        self.check(["    a", "    ^", "     b", "     ^", "      c", "      ^"],
                   (1, 3, 0, 9), ["  a", "   b", "    c"])
        self.check(["    \ta", "     ^", "    b", "    ^"], (1, 2, 0, 9), ["\t\ta", "\tb"])
        self.check(["      a", "      ^", "    b", "    ^"], (1, 2, 0, 9), ["\t  a", "\tb"])
        self.check(["     a", "     ^", "    b", "    ^"], (1, 2, 0, 9), ["\t a", " b"])
        self.check(["      a", "      ^", "    b", "    ^"], (1, 2, 0, 9), ["  a", "b"])

    def test_tabs_have_one_cell(self):
        self.check(["    a\tb\tc", "      ^^^"], (1, 1, 2, 5), ["a\tb\tc"])
        self.check(["    a\tb\tc", "     ^"], (1, 1, 2, 3), ["\ta\tb\tc\t"])

    def test_empty_lines(self):
        self.check(["    "], (1, 1, 0, 9), [""])
        self.check(["    "], (1, 1, 0, 9), [" \t "])
        self.check(["    ", "    "], (1, 2, 0, 9), ["   ", ""])
        self.check(["    a", "    ^", "    ", "    b", "    ^"], (1, 3, 0, 9), ["  a", "", "  b"])
        self.check(["    a", "    ^", "    ", "    b", "    ^"], (1, 3, 0, 9), ["  a", " ", "  b"])
        self.check(["    a", "    ^", "    ", "    b", "    ^"], (1, 3, 0, 9), ["  a", "     \t", "  b"])
        self.check(["    ", "    b", "    ^"], (1, 2, 0, 9), ["", "\t\tb"])
        self.check(["    b", "    ^", "    "], (1, 2, 0, 9), ["\t\tb", ""])
        self.check(["    "] * 5, (1, 5, 0, 9), [""] * 5)
        self.check(["    ", "    ", "    ...<2 lines>...", "    ", "    "], (1, 6, 0, 9), [" "] * 6)

    def test_five_lines_and_six(self):
        lines = ["a(", "  b,", "  c,", "  d,", "  e,", ")"]
        both = ["    a(", "     ^", "      b,", "      ^^"]
        self.check([*both, "      c,", "      ^^", "      d,", "      ^^", "    )", "    ^"],
                   (1, 5, 1, 1), lines[:4] + lines[5:])
        self.check([*both, "    ...<2 lines>...", "      e,", "      ^^", "    )", "    ^"], (1, 6, 1, 1), lines)
        lines[3:3] = ["  x,", ""]
        self.check([*both, "    ...<4 lines>...", "      e,", "      ^^", "    )"], (1, 8, 1, 0), lines)
        self.check(["    a", "    b", "    ^", "    ...<3 lines>...", "    f", "    ^", "    g"],
                   (1, 7, 1, 0), list("abcdefg"))

    def test_the_margin_of_lines_that_are_replaced(self):
        lines = ["    a", "    b", "  c", "    d", "    e", "    f"]
        self.check(["      a", "      ^", "      b", "      ^", "    ...<2 lines>...", "      e", "      ^",
                    "      f", "      ^"], (1, 6, 0, 9), lines)
        lines[2] = "\t"
        self.check(["    a", "    ^", "    b", "    ^", "    ...<2 lines>...", "    e", "    ^", "    f", "    ^"],
                   (1, 6, 0, 9), lines)

    def test_many_lines(self):
        lines = [" " * (k % 7 + 2) + "x" * (k % 5) for k in range(5000)]
        self.check(["    ", "     x", "     ^", "    ...<4996 lines>...", "    xxx", "    ^^^", "     xxxx",
                    "     ^^^"], (1, 5000, 0, 6), lines)
        span = (MOST - 4999, MOST, 3, MOST)
        self.assertEqual(marked(span, lines), marked_by_hand(span, lines))

    def test_random_lines(self):
        rng = random.Random(22)
        for _ in range(4000):
            many = rng.choice([1, 1, 2, 3, 4, 5, 6, 7, 8])
            lines = ["".join(rng.choice(" \tab") for _ in range(rng.randint(0, 6))) for _ in range(many)]
            column = rng.randint(0, 7)
            end_column = rng.randint(column if many == 1 else 0, 8)
            span = (4, 3 + many, column, end_column)
            self.assertEqual(marked(span, lines), marked_by_hand(span, lines), (span, lines))

    def test_by_name_in_any_order(self):
        self.assertEqual(marked(lines=["ab"], span=(1, 1, 0, 1)), ["    ab", "    ^"])
        self.assertEqual(marked((1, 1, 0, 1), lines=["ab"]), ["    ab", "    ^"])

    def test_lists_are_not_shared(self):
        lines = ["ab", "cd"]
        first = marked((1, 2, 0, 1), lines)
        kept = list(first)
        lines[0] = "x"
        lines.append("y")
        self.assertEqual(first, kept)
        first.clear()
        self.assertEqual(marked((1, 2, 0, 1), ["ab", "cd"]), kept)


class MarkedErrorsTest(Case):
    def test_spans(self):
        for thing in [*NO_SPANS, None, (1, 1, None, None), (MOST, MOST, None, None)]:
            for lines in (["a"], [], ["a", "b"], [1], None, ODD):
                self.check_raises(BadSpan, {"at": 0}, marked, thing, lines)
                self.check_raises(BadSpan, {"at": 0}, marked, lines=lines, span=thing)

    def test_lists_of_another_length(self):
        for span, right in (((1, 1, 0, 1), 1), ((5, 6, 0, 1), 2), ((5, 10, 3, 0), 6)):
            for many in range(9):
                if many != right:
                    self.check_raises(BadCount, {"many": many}, marked, span, ["ab"] * many)
                    self.check_raises(BadCount, {"many": many}, marked, span, [""] * many)
            marked(span, ["ab"] * right)
        self.check_raises(BadCount, {"many": 1}, marked, (1, MOST, 0, 0), ["ab"])
        self.check_raises(BadCount, {"many": 5000}, marked, (1, MOST, 0, 0), ["ab"] * 5000)

    def test_lists_with_an_element_that_is_no_string(self):
        for thing in (None, 0, True, b"a", ["a"], ("a",), {}, ODD):
            for lines in ([thing, "b"], ["a", thing], [thing, thing], [thing], ["a", "b", thing]):
                self.check_raises(BadCount, {"many": -1}, marked, (1, 2, 0, 1), lines)

    def test_what_is_no_list(self):
        for thing in (None, 0, 2, True, "ab", "a", b"ab", ("a", "b"), {}, {"a": 1, "b": 2}, {"a", "b"}, iter("ab"), ODD):
            self.check_raises(BadCount, {"many": -1}, marked, (1, 2, 0, 1), thing)
            self.check_raises(BadCount, {"many": -1}, marked, lines=thing, span=(1, 1, 0, 1))


if __name__ == "__main__":
    unittest.main()
