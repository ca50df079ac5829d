"""Points 19 to 21: one source line, with the characters of a span marked below it."""

import random
import unittest

from codespans.drawing import carets
from codespans.errors import BadCount, BadSpan
from tests.support import MOST, NO_INTEGERS, ODD, Case
from tests.test_spans import NO_SPANS

EXAMPLE = "x =  a + b()"


def one_line(column, end_column):
    return (1, 1, column, end_column)


def carets_by_hand(span, text, indent=4, anchor=None, tab=0, wide=""):
    """The rows by the words of the document, cell by cell."""
    begin = 0
    while begin < len(text) and text[begin] in (" ", "\t"):
        begin += 1
    end = len(text)
    while end > begin and text[end - 1] in (" ", "\t"):
        end -= 1
    if begin == end:
        return []
    columns = list(range(begin, end))
    chosen = []
    if span is not None and span[2] is not None:
        chosen = [at for at in columns if at >= span[2] and (span[1] > span[0] or at < span[3])]
    anchored = []
    if anchor is not None:
        anchored = [at for at in chosen if anchor[0] <= at <= anchor[1] - 1]
    shown, marks = "", ""
    cells = 0
    for at in columns:
        if text[at] == "\t" and tab:
            width = 1
            while (cells + width) % tab:
                width += 1
            shown += " " * width
        else:
            width = 2 if text[at] in list(wide) else 1
            shown += text[at]
        cells += width
        mark = " "
        if at in chosen:
            mark = "^" if at in anchored or not anchored else "~"
        marks += mark * width
    rows = [" " * indent + shown]
    if chosen and chosen != columns:
        rows.append(" " * indent + marks.rstrip(" "))
    return rows


class CaretsCase(Case):
    def check(self, wanted, span, text, **more):
        got = carets(span, text, **more)
        self.assertEqual(got, wanted)
        self.assertEqual(got, carets_by_hand(span, text, **more))
        self.assertIs(type(got), list)
        for row in got:
            self.assertIs(type(row), str)


class CaretsTest(CaretsCase):
    def test_the_examples(self):
        self.check(["    x =  a + b()", "         ~~^~~~~"], (1, 1, 5, 12), EXAMPLE, anchor=(7, 8))

    def test_text_that_shows_nothing(self):
        for text in ("", " ", "\t", " \t \t", "\t\t  "):
            for span in (None, (1, 1, None, None), one_line(0, 0), one_line(0, 3), (1, 2, 0, 0)):
                for more in ({}, {"indent": 0}, {"tab": 4}, {"wide": " \t"}, {"anchor": (0, 1)}):
                    self.check([], span, text, **more)

    def test_columns_within_the_shown_text(self):
        self.check(["    abc def", "    ^^^"], one_line(0, 3), "abc def")
        self.check(["    abc def", "        ^^^"], one_line(4, 7), "abc def")
        self.check(["    abc def", "     ^"], one_line(1, 2), "abc def")
        self.check(["    abc def", "      ^^^"], one_line(2, 5), "abc def")
        self.check(["    a", ], one_line(0, 1), "a")

    def test_columns_are_counted_in_the_text(self):
        self.check(["    abc def", "        ^^^"], one_line(6, 9), "  abc def")
        self.check(["    abc def", "        ^^^"], one_line(6, 9), "\t abc def \t ")
        self.check(["    abc def", "    ^"], one_line(2, 3), " \tabc def")

    def test_columns_are_limited_to_the_shown_text(self):
        self.check(["    abc def", "    ^^"], one_line(0, 4), "  abc def  ")
        self.check(["    abc def", "         ^^"], one_line(7, 99), "  abc def  ")
        self.check(["    abc def", "          ^"], one_line(8, MOST), "  abc def  ")
        self.check(["    abc def"], one_line(0, 2), "  abc def  ")
        self.check(["    abc def"], one_line(1, 2), "  abc def  ")
        self.check(["    abc def"], one_line(9, 11), "  abc def  ")
        self.check(["    abc def"], one_line(11, MOST), "  abc def  ")
        self.check(["    abc def"], one_line(MOST, MOST), "  abc def  ")
        self.check(["    abc def", "    ^"], one_line(0, 3), "  abc def  ")

    def test_no_character_is_marked(self):
        for column in range(12):
            self.check(["    abc def"], one_line(column, column), "  abc def  ")

    def test_spans_without_marks(self):
        for more in ({}, {"anchor": (0, 99)}, {"tab": 4}, {"wide": "a"}):
            self.check(["    abc def"], None, "  abc def  ", **more)
            self.check(["    abc def"], (7, 7, None, None), "  abc def  ", **more)

    def test_the_whole_shown_text(self):
        for text in ("abc def", "  abc def", "\tabc def  "):
            begin = text.index("a")
            for span in (one_line(begin, begin + 7), one_line(0, 99), one_line(0, MOST), (1, 2, 0, 0)):
                for more in ({}, {"anchor": (begin, begin + 1)}, {"anchor": (0, 99)}, {"wide": "a"}, {"tab": 8}):
                    self.check(["    abc def"], span, text, **more)
            self.check(["    abc def", "    ^^^^^^"], one_line(begin, begin + 6), text)
            self.check(["    abc def", "     ^^^^^^"], one_line(begin + 1, begin + 7), text)

    def test_spans_over_several_lines(self):
        self.check(["    abc def", "       ^^^^"], (1, 2, 5, 0), "  abc def  ")
        self.check(["    abc def", "       ^^^^"], (1, 2, 5, 1), "  abc def  ")
        self.check(["    abc def", "       ^^^^"], (1, MOST, 5, MOST), "  abc def  ")
        self.check(["    abc def", "          ^"], (1, 2, 8, 0), "  abc def  ")
        self.check(["    abc def"], (1, 2, 9, 0), "  abc def  ")
        self.check(["    abc def"], (1, 2, 99, 100), "  abc def  ")
        self.check(["    abc def"], (1, 2, 2, 4), "  abc def  ")
        self.check(["    abc def"], (1, 2, 0, 4), "  abc def  ")
        self.check(["    abc def", "       ^~~~"], (4, 9, 5, 0), "  abc def  ", anchor=(0, 6))

    def test_indent(self):
        for indent in (0, 1, 4, 199, 200):
            blanks = " " * indent
            self.check([blanks + "abc", blanks + " ^"], one_line(2, 3), " abc", indent=indent)
            self.check([blanks + "abc"], None, " abc", indent=indent)
        self.check(["abc", " ^"], one_line(2, 3), "\tabc", indent=0)


class AnchorTest(CaretsCase):
    def check_marks(self, wanted, anchor, span=(1, 1, 5, 12), text=EXAMPLE):
        self.check(["    " + text.strip(" \t"), "    " + wanted], span, text, anchor=anchor)

    def test_within(self):
        self.check_marks("     ^~~~~~~", (5, 6))
        self.check_marks("     ~~~~~~^", (11, 12))
        self.check_marks("     ~~^^^~~", (7, 10))
        self.check_marks("     ^^^^^^^", (5, 12))
        self.check_marks("     ^^^^^^^", None)

    def test_beside(self):
        for anchor in ((0, 5), (4, 5), (0, 0), (12, 13), (12, 99), (-9, 0), (13, 10 ** 1999)):
            self.check_marks("     ^^^^^^^", anchor)

    def test_across(self):
        self.check_marks("     ^~~~~~~", (0, 6))
        self.check_marks("     ~~~~~~^", (11, 99))
        self.check_marks("     ^^^^^^^", (0, 99))
        self.check_marks("     ^^^^^^^", (-10 ** 1999, 10 ** 1999))
        self.check_marks("     ~~~~~^^", (10, MOST))

    def test_anchors_of_no_column(self):
        for anchor in ((7, 7), (8, 7), (99, 0), (6, -6), (MOST, -MOST)):
            self.check_marks("     ^^^^^^^", anchor)

    def test_columns_of_the_text_that_is_not_shown(self):
        text = "   abc def  "
        self.check_marks("^^", (0, 3), one_line(0, 5), text)
        self.check_marks("^~", (0, 4), one_line(0, 5), text)
        self.check_marks("   ^^^^", (10, 99), one_line(6, 12), text)
        self.check_marks("   ~~~^", (9, 99), one_line(6, 12), text)

    def test_no_row_of_marks(self):
        for anchor in ((0, 1), (2, 4), (7, 8), (0, 99)):
            for span in (None, (1, 1, None, None), one_line(3, 3), one_line(0, 12), (1, 3, 0, 0), one_line(12, 20)):
                self.check(["    " + EXAMPLE], span, EXAMPLE, anchor=anchor)


class CellsTest(CaretsCase):
    def test_tabs_as_they_are(self):
        self.check(["    a\tb", "    ^^"], one_line(0, 2), "a\tb")
        self.check(["    a\tb", "      ^"], one_line(2, 3), "a\tb", tab=0)
        self.check(["    a\t\tb", "     ^"], one_line(2, 3), "\ta\t\tb\t", tab=0)

    def test_tabs_as_blanks(self):
        self.check(["    a   b", "        ^"], one_line(2, 3), "a\tb", tab=4)
        self.check(["    a   b", "     ^^^"], one_line(1, 2), "a\tb", tab=4)
        self.check(["    abc b", "       ^"], one_line(3, 4), "abc\tb", tab=4)
        self.check(["    abcd    b", "        ^^^^"], one_line(4, 5), "abcd\tb", tab=4)
        self.check(["    abcde   b", "         ^^^"], one_line(5, 6), "abcde\tb", tab=4)
        self.check(["    a       b", "        ^^^^"], one_line(2, 3), "a\t\tb", tab=4)
        self.check(["    a b", "     ^"], one_line(1, 2), "a\tb", tab=1)
        self.check(["    ab  c", "      ^^"], one_line(2, 3), "ab\tc", tab=2)
        self.check(["    a" + " " * 15 + "b", "     " + "^" * 15], one_line(1, 2), "a\tb", tab=16)

    def test_tabs_are_counted_from_the_shown_text_on(self):
        for text in ("a\tb", " a\tb", "\ta\tb", "  \t a\tb\t"):
            at = text.index("b")
            for indent in (0, 1, 3, 4):
                blanks = " " * indent
                self.check([blanks + "a   b", blanks + "    ^"], one_line(at, at + 1), text, indent=indent, tab=4)
        self.check(["    ab"], one_line(0, 1), "\tab", tab=4)

    def test_tabs_and_anchors(self):
        self.check(["  a   b+c", "  ~~~~^~"], one_line(0, 4), "a\tb+c", indent=2, anchor=(2, 3), tab=4)
        self.check(["  a   b+c", "  ~^^^~~"], one_line(0, 4), "a\tb+c", indent=2, anchor=(1, 2), tab=4)

    def test_wide_characters(self):
        self.check(["    aWb", "     ^^"], one_line(1, 2), "aWb", wide="W")
        self.check(["    aWb", "       ^"], one_line(2, 3), "aWb", wide="WM")
        self.check(["    aWbM", "     ^^^"], one_line(1, 3), "aWbM", wide="MW")
        self.check(["    aWb", "    ~^^"], one_line(0, 2), "aWb", wide="W", anchor=(1, 2))
        self.check(["    aWb", "    ^~~"], one_line(0, 2), "aWb", wide="W", anchor=(0, 1))
        self.check(["    W W", "    ^^"], one_line(1, 2), " W W", wide="W")
        self.check(["    a b", "     ^^^^"], one_line(1, 3), "a b", wide="b ")
        self.check(["    a b c", "     ^^"], one_line(1, 2), "a b c", wide=" ")
        self.check(["    aa", "      ^^"], one_line(1, 2), "aa", wide="aaa")
        self.check(["    ab"], one_line(0, 2), "ab", wide="ab")

    def test_wide_characters_by_their_case_and_not_as_words(self):
        self.check(["    Aab", "     ^^"], one_line(1, 2), "Aab", wide="ab")
        self.check(["    xaby", "     ^^^^"], one_line(1, 3), "xaby", wide="azb")

    def test_a_wide_tab(self):
        self.check(["    a\tb", "     ^^"], one_line(1, 2), "a\tb", wide="\t")
        self.check(["    a\tb", "       ^"], one_line(2, 3), "a\tb", wide="x\t", tab=0)
        self.check(["    a   b", "     ^^^"], one_line(1, 2), "a\tb", wide="\t", tab=4)
        self.check(["    a b", "     ^"], one_line(1, 2), "a\tb", wide="\t", tab=1)
        self.check(["    a b", "     ^"], one_line(1, 2), "a\tb", wide="\t", tab=2)

    def test_tabs_behind_wide_characters(self):
        self.check(["    W  b", "      ^^"], one_line(1, 2), "W\tb", wide="W", tab=4)
        self.check(["    WW    b", "        ^^^^"], one_line(2, 3), "WW\tb", wide="W", tab=4)
        self.check(["    W\tb", "      ^"], one_line(1, 2), "W\tb", wide="W", tab=0)

    def test_marks_end_at_the_last_marked_character(self):
        for text in ("a\tbc", "a b\t c"):
            for tab in (0, 4):
                rows = carets(one_line(0, 2), text, tab=tab, wide="c")
                self.assertEqual(rows[1], rows[1].rstrip(" "))


class AllCaretsTest(Case):
    def test_random_lines(self):
        rng = random.Random(21)
        for _ in range(6000):
            text = "".join(rng.choice(" \tabW(") for _ in range(rng.randint(0, 9)))
            column = rng.randint(0, 10)
            span = rng.choice([None, (1, 1, None, None), (3, 3, column, column + rng.randint(0, 8)),
                               (3, 3, column, column + rng.randint(0, 8)), (3, 5, column, rng.randint(0, 9))])
            more = {
                "indent": rng.randint(0, 5), "tab": rng.choice([0, 0, 1, 2, 3, 4, 8, 16]),
                "wide": rng.choice(["", "W", "\t", "aW", " \t(", "b a"]),
                "anchor": rng.choice([None, (rng.randint(-2, 9), rng.randint(-2, 12))]),
            }
            self.assertEqual(carets(span, text, **more), carets_by_hand(span, text, **more), (span, text, more))

    def test_long_lines(self):
        text = "\t" + "ab\tW " * 1000
        for span in (one_line(1, 4000), one_line(4990, MOST), (1, 2, 77, 0)):
            for more in ({}, {"tab": 16, "wide": "W"}, {"anchor": (100, 2000), "tab": 3}):
                self.assertEqual(carets(span, text, **more), carets_by_hand(span, text, **more))

    def test_by_name_in_any_order(self):
        wanted = ["  x =  a + b()", "       ~~^~~~~"]
        more = {"wide": "", "tab": 0, "anchor": (7, 8), "indent": 2}
        self.assertEqual(carets(text=EXAMPLE, span=(1, 1, 5, 12), **more), wanted)
        self.assertEqual(carets((1, 1, 5, 12), text=EXAMPLE, **more), wanted)
        for args in ((4,), (4, None), (4, None, 0), (4, None, 0, "")):
            self.assertRaises(TypeError, carets, None, "a", *args)

    def test_returned_lists_are_new(self):
        first = carets(one_line(0, 1), "ab")
        first.clear()
        self.assertEqual(carets(one_line(0, 1), "ab"), ["    ab", "    ^"])
        carets(None, "").append("x")
        self.assertEqual(carets(None, ""), [])


class CaretsErrorsTest(Case):
    def test_spans(self):
        for thing in NO_SPANS:
            for text in ("abc", "", " \t"):
                self.check_raises(BadSpan, {"at": 0}, carets, thing, text)
                self.check_raises(BadSpan, {"at": 0}, carets, text=text, span=thing)

    def test_indents(self):
        for thing in (-1, 201, 202, 10 ** 1999, -10 ** 1999, *NO_INTEGERS):
            for text in ("abc", "", " \t"):
                for span in (None, (1, 1, None, None), one_line(0, 1)):
                    self.check_refuses(BadCount, "many", thing, carets, span, text, indent=thing)

    def test_tabs(self):
        for thing in (-1, 17, 18, 10 ** 1999, -10 ** 1999, *NO_INTEGERS):
            for text in ("abc", "a\tb", "", " \t"):
                for span in (None, (1, 1, None, None), one_line(0, 1)):
                    self.check_refuses(BadCount, "many", thing, carets, span, text, tab=thing)

    def test_several_at_once(self):
        for text in ("abc", "a\tb", "", " \t"):
            for indent in (-1, 201, None, True, ODD):
                for tab in (-2, 17, None, False, ODD):
                    more = {"tab": tab, "indent": indent, "anchor": (0, 1), "wide": "a"}
                    self.check_raises(BadSpan, {"at": 0}, carets, (0, 0, 0, 0), text, **more)
                    self.check_raises(BadSpan, {"at": 0}, carets, ODD, text, **more)
                    self.check_refuses(BadCount, "many", indent, carets, None, text, **more)
                    self.check_raises(BadSpan, {"at": 0}, carets, 1, text, tab=tab)

    def test_the_bounds(self):
        self.assertEqual(carets(None, "a\tb", indent=200, tab=16), [" " * 200 + "a" + " " * 15 + "b"])
        self.assertEqual(carets(None, "a\tb", indent=0, tab=0), ["a\tb"])


if __name__ == "__main__":
    unittest.main()
