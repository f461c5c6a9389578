import time
import unittest

from inkform.errors import NoDrawing, TooNarrow
from inkform.formulas import is_formula
from inkform.lines import read_line
from inkform.pages import page_of, pieces_of, read_page
from tests.samples import (
    A, B, C, FAR, KINDS, ONE, TWO, X, InkTest, add, at_the_bounds, beyond_the_bounds, both, changed, even, floor_rows, held,
    marked, mixed, name, nests, number, of_each_shape, over, parts, plan_of, root, table, times,
)

ROW_KINDS = ("even", "sum", "times")

# Evens, sums and times of few parts, these of unlike widths and heights.
ROWS_OF_PARTS = (
    even(A, B), even(A, B, C), even(name("abc"), A, name("abcde"), B, C), even(add("+", A, B), C, times(A, B)),
    add("+", A, B), add("-+-", A, name("bcd"), C, TWO), add("+-", name("abcdefgh"), A, B), add("-+", A, B, name("abcdefgh")),
    add("--", A, name("abcdefgh"), B), times(A, B, C, X), times(number(100), A, held(add("+", A, B)), A),
    add("-+", over(A, B), C, over(A, name("bcd"))), times(root(over(A, B)), marked(X, TWO, None), table((A,), (B,))),
    even(marked(X, None, over(A, B)), A, marked(held(A), name("abcd"), None)), times(A, A, A, A, A, A, A),
    add("+-+-+", ONE, number(22), number(333), number(22), ONE, number(4444)), even(held(even(A, B)), held(A)),
)


def wide_of(f):
    return both(plan_of(f))[1].wide


def piece_plan(f, first, end):
    """The plan of the piece of the parts from first up to end."""
    plan = plan_of(f)
    some, signs = plan[1][first:end], plan[2]
    piece = some[0] if len(some) == 1 else ("chain", some, signs[first:end - 1])
    return piece if first == 0 else ("led", signs[first - 1], piece)


def plans_of(f, pieces):
    if len(pieces) == 1:
        return [plan_of(f)]
    ends = [sum(pieces[:n + 1]) for n in range(len(pieces))]
    return [piece_plan(f, end - piece, end) for piece, end in zip(pieces, ends)]


def page_rows(f, pieces):
    """The page of these pieces as the tests themselves tell it."""
    several = [floor_rows(plan) for plan in plans_of(f, pieces)]
    wide = max(len(rows[0]) for rows in several)
    page = []
    for rows in several:
        page += [" " * wide] + [row.ljust(wide) for row in rows]
    return page[1:]


def ways(how_many):
    """All ways to break so many parts into pieces, those with more parts in earlier pieces first."""
    if how_many == 0:
        return [[]]
    return [[first] + rest for first in range(how_many, 0, -1) for rest in ways(how_many - first)]


def ways_that_fit(f, width):
    """All ways to break a formula for a width, found by trying all."""
    if wide_of(f) <= width:
        return [[len(parts(f))] if f[0] in ROW_KINDS else [1]]
    if f[0] not in ROW_KINDS:
        return []
    all_ways = [way for way in ways(len(parts(f))) if len(way) > 1]
    return [way for way in all_ways if all(both(plan)[1].wide <= width for plan in plans_of(f, way))]


class PageTest(InkTest):
    def is_broken(self, f, width, *pieces):
        told = pieces_of(f, width)
        self.assertIs(type(told), list)
        self.assertEqual(told, list(pieces))
        self.assertTrue(all(type(n) is int for n in told))

    def is_too_narrow(self, f, *widths):
        for width in widths:
            with self.subTest(f=str(f)[:200], width=width):
                self.refuses("TooNarrow", pieces_of, f, width)
                self.refuses("TooNarrow", page_of, f, width)

    def is_page(self, f, width, *rows):
        told = page_of(f, width)
        self.assertIs(type(told), list)
        self.assertEqual(told, list(rows))
        given = list(rows)
        self.assertEqual(repr(read_page(given, width)), repr(f))
        self.assertEqual(given, list(rows))

    def is_no_page(self, rows, width):
        kept = list(rows)
        with self.subTest(rows=rows[:20], width=width):
            self.refuses("NoDrawing", read_page, rows, width)
        self.assertEqual(rows, kept)

    def is_read_or_refused(self, rows, width):
        """Whatever is read must be a formula that has this very page for this width."""
        try:
            f = read_page(rows, width)
        except NoDrawing:
            return None
        self.assertTrue(is_formula(f))
        self.assertEqual(page_of(f, width), rows)
        return f


class Pieces(PageTest):
    def test_no_wider_than_the_width(self):
        for f in list(KINDS.values()) + nests() + at_the_bounds() + mixed(81, 30):
            wide = wide_of(f)
            how_many = len(parts(f)) if f[0] in ROW_KINDS else 1
            for width in (wide, wide + 1, wide + 100, FAR):
                self.is_broken(f, width, how_many)

    def test_one_less(self):
        self.is_broken(even(A, B, C), 9, 3)
        self.is_broken(even(A, B, C), 8, 2, 1)
        self.is_broken(even(A, B, C), 5, 2, 1)
        self.is_broken(even(A, B, C), 4, 1, 1, 1)
        self.is_broken(even(A, B, C), 3, 1, 1, 1)
        self.is_too_narrow(even(A, B, C), 2, 1, 0, -1)

    def test_each_kind_of_row(self):
        for f in (even(A, B, C, X), add("+-+", A, B, C, X), times(A, B, C, X)):
            self.is_broken(f, 13, 4)
            self.is_broken(f, 12, 3, 1)
            self.is_broken(f, 9, 3, 1)
            self.is_broken(f, 8, 2, 2)
            self.is_broken(f, 7, 2, 2)
            self.is_broken(f, 6, 2, 1, 1)
            self.is_broken(f, 4, 1, 1, 1, 1)
            self.is_broken(f, 3, 1, 1, 1, 1)
            self.is_too_narrow(f, 2)

    def test_parts_of_unlike_widths(self):
        f = add("+-+", name("abcd"), A, name("abcdef"), ONE)
        self.is_broken(f, 21, 4)
        self.is_broken(f, 20, 3, 1)
        self.is_broken(f, 17, 3, 1)
        self.is_broken(f, 16, 2, 2)
        self.is_broken(f, 12, 2, 2)
        self.is_broken(f, 11, 2, 1, 1)
        self.is_broken(f, 8, 2, 1, 1)
        self.is_too_narrow(f, 7)

    def test_only_the_outermost_parts_are_parted(self):
        f = even(add("+", A, B), times(A, B), C)
        self.is_broken(f, 16, 2, 1)
        self.is_broken(f, 13, 2, 1)
        self.is_broken(f, 12, 1, 2)
        self.is_broken(f, 11, 1, 2)
        self.is_broken(f, 10, 1, 1, 1)
        self.is_broken(f, 7, 1, 1, 1)
        self.is_too_narrow(f, 6, 5)

    def test_one_part_too_wide(self):
        long = name("abcdefgh")
        # The first piece has the whole width, each later one two columns less.
        self.is_broken(add("++", long, A, B), 8, 1, 2)
        self.is_too_narrow(add("++", long, A, B), 7)
        self.is_broken(add("++", A, long, B), 10, 1, 1, 1)
        self.is_too_narrow(add("++", A, long, B), 9, 8)
        self.is_broken(add("++", A, B, long), 10, 2, 1)
        self.is_too_narrow(add("++", A, B, long), 9, 8)
        self.is_broken(even(long, long), 10, 1, 1)
        self.is_too_narrow(even(long, long), 9, 8, 7)

    def test_other_kinds(self):
        for kind, f in KINDS.items():
            if kind not in ROW_KINDS:
                wide = wide_of(f)
                self.is_broken(f, wide, 1)
                self.is_too_narrow(f, wide - 1, wide - 2, 0, -1)
        inner = even(A, B)
        for f in (held(inner), root(inner), over(inner, C), over(C, inner), table((inner, A)), marked(A, inner, None)):
            self.is_broken(f, wide_of(f), 1)
            self.is_too_narrow(f, wide_of(f) - 1, 3, 1)
        self.is_broken(table((A, B), (C, X)), 6, 1)

    def test_widths_of_nought_and_far_away(self):
        for f in list(KINDS.values()) + at_the_bounds() + mixed(82, 10):
            self.is_too_narrow(f, 0, -1, -2, -3, -FAR)
            self.is_broken(f, FAR, len(parts(f)) if f[0] in ROW_KINDS else 1)

    def test_all_ways_tried(self):
        for f in ROWS_OF_PARTS + tuple(KINDS.values()):
            for width in range(-2, wide_of(f) + 3):
                ways = ways_that_fit(f, width)
                if ways == []:
                    self.is_too_narrow(f, width)
                else:
                    # The ways stand by how many parts the earlier pieces have, so the first one is the one asked for.
                    self.is_broken(f, width, *ways[0])
                    self.assertEqual(len(ways[0]), min(len(way) for way in ways))

    def test_all_ways_of_all_small_formulas(self):
        for count in range(1, 5):
            for f in of_each_shape(count):
                for width in range(1, wide_of(f) + 1):
                    ways = ways_that_fit(f, width)
                    if ways == []:
                        self.is_too_narrow(f, width)
                    else:
                        self.assertEqual(pieces_of(f, width), ways[0])

    def test_as_many_parts_as_can_be(self):
        for f in (even(*[A] * 80), add("+-" * 39 + "-", *[name("abc")] * 80), times(*[number(10 ** n) for n in range(9)] * 8)):
            widths = [wide_of(part) for part in parts(f)]
            for width in (12, 13, 14, 40, 41, 99, 100, 200):
                pieces = pieces_of(f, width)
                self.assertEqual(sum(pieces), len(widths))
                first = 0
                for piece in pieces:
                    own = (2 if first > 0 else 0) + sum(widths[first:first + piece]) + 3 * (piece - 1)
                    self.assertLessEqual(own, width)
                    if first + piece < len(widths):
                        self.assertGreater(own + 3 + widths[first + piece], width)
                    first += piece

    def test_told_lists_are_new(self):
        f = even(A, B, C)
        for width in (4, 8, 9):
            for ask in (pieces_of, page_of):
                first = ask(f, width)
                kept = list(first)
                ask(f, width).clear()
                self.assertEqual(first, kept)
                first.append("more")
                self.assertEqual(ask(f, width), kept)


class Pages(PageTest):
    def test_one_piece_is_the_drawing(self):
        for f in list(KINDS.values()) + nests() + at_the_bounds() + mixed(83, 20):
            rows = floor_rows(plan_of(f))
            for width in (len(rows[0]), len(rows[0]) + 1, FAR):
                self.assertEqual(page_of(f, width), rows)
                self.assertEqual(read_page(rows, width), f)

    def test_pieces_of_one_row(self):
        self.is_page(even(A, B, C), 8, "a = b", "     ", "= c  ")
        self.is_page(even(A, B, C), 4, "a  ", "   ", "= b", "   ", "= c")
        self.is_page(add("-+", A, B, C), 3, "a  ", "   ", "- b", "   ", "+ c")
        self.is_page(add("-+-", A, B, C, TWO), 7, "a - b  ", "       ", "+ c - 2")
        self.is_page(times(number(100), A, B), 9, "100 * a", "       ", "* b    ")
        self.is_page(times(A, number(100), B), 6, "a    ", "     ", "* 100", "     ", "* b  ")
        self.is_page(even(add("+", A, B), times(A, B), C), 11, "a + b      ", "           ", "= a * b = c")
        self.is_page(even(add("+", A, B), times(A, B), C), 7, "a + b  ", "       ", "= a * b", "       ", "= c    ")

    def test_pieces_of_many_rows(self):
        self.is_page(
            add("-+", over(A, B), C, over(A, name("bcd"))), 7,
            " a     ",
            "--- - c",
            " b     ",
            "       ",
            "    a  ",
            "+ -----",
            "   bcd ",
        )
        self.is_page(
            add("--", over(A, B), marked(X, TWO, None), root(X)), 5,
            " a   ",
            "---  ",
            " b   ",
            "     ",
            "   2 ",
            "- x  ",
            "     ",
            "    _",
            "- V|x",
        )
        self.is_page(
            times(table((A,), (B,)), held(over(A, B)), marked(X, None, ONE)), 7,
            "|a|    ",
            "[ ]    ",
            "|b|    ",
            "       ",
            "  / a \\",
            "* (---)",
            "  \\ b /",
            "       ",
            "* x    ",
            "   1   ",
        )

    def test_a_later_piece_is_the_widest(self):
        self.is_page(even(A, name("abcdef")), 9, "a       ", "        ", "= abcdef")
        self.is_page(even(A, name("abcdef")), 8, "a       ", "        ", "= abcdef")

    def test_all_pieces_of_many_formulas(self):
        for f in ROWS_OF_PARTS:
            for width in range(1, wide_of(f) + 2):
                fitting = ways_that_fit(f, width)
                if fitting != []:
                    self.is_page(f, width, *page_rows(f, fitting[0]))

    def test_mixed(self):
        broken = 0
        for f in mixed(84, 150) + mixed(85, 200, 4, 40) + at_the_bounds():
            wide = wide_of(f)
            for width in {wide - 1, wide - 2, wide * 2 // 3, wide // 2, wide // 3, wide // 5, wide // 10}:
                try:
                    pieces = pieces_of(f, width)
                except TooNarrow:
                    self.is_too_narrow(f, width)
                    continue
                broken += 1
                self.is_page(f, width, *page_rows(f, pieces))
        self.assertGreater(broken, 100)

    def test_rows_of_pages(self):
        """No row is blank but the one between two pieces, and all are as long as the widest piece."""
        for f in ROWS_OF_PARTS:
            for width in range(1, wide_of(f)):
                try:
                    page = page_of(f, width)
                except TooNarrow:
                    continue
                pieces = pieces_of(f, width)
                self.assertEqual(sum(row.strip() == "" for row in page), len(pieces) - 1)
                self.assertEqual({len(row) for row in page}, {max(len(row.rstrip()) for row in page)})
                self.assertLessEqual(len(page[0]), width)


class ReadPages(PageTest):
    def test_with_another_width(self):
        for f in ROWS_OF_PARTS:
            widths = range(-1, wide_of(f) + 3)
            first_ways = {width: (ways_that_fit(f, width) + [None])[0] for width in widths}
            for width in widths:
                if first_ways[width] is None:
                    continue
                page = page_rows(f, first_ways[width])
                for other in widths:
                    if first_ways[other] == first_ways[width]:
                        self.assertEqual(read_page(page, other), f)
                    else:
                        self.is_no_page(page, other)
                self.is_no_page(page, -FAR)
                self.is_no_page(page, 0)
                if len(first_ways[width]) > 1:
                    self.is_no_page(page, FAR)

    def test_other_ways_to_break(self):
        """Of all ways to break a formula only the one of the greatest pieces is its page."""
        for f in ROWS_OF_PARTS:
            if len(parts(f)) > 5:
                continue
            for width in range(1, wide_of(f) + 2):
                right = (ways_that_fit(f, width) + [None])[0]
                for way in ways(len(parts(f))):
                    page = page_rows(f, way)
                    if way == right:
                        self.assertEqual(read_page(page, width), f)
                    else:
                        self.is_no_page(page, width)

    def test_broken_at_the_inner_parts(self):
        self.is_no_page(["a    ", "     ", "+ b  ", "     ", "= c  "], 5)
        self.is_no_page(["a    ", "     ", "+ b  ", "     ", "= c  "], 3)
        self.is_no_page(["a  ", "   ", "+ b", "   ", "= c"], 3)
        self.is_no_page(["a = b", "     ", "+ c  "], 5)
        self.is_no_page(["a + b", "     ", "* c  "], 5)
        self.is_no_page(["a  ", "   ", "* b", "   ", "- c"], 3)
        self.is_page(even(add("+", A, B), C), 5, "a + b", "     ", "= c  ")
        self.is_page(add("-", times(A, B), C), 5, "a * b", "     ", "- c  ")
        self.is_page(add("-", A, times(B, C)), 7, "a      ", "       ", "- b * c")

    def test_wrong_pages(self):
        for rows in (
            [], [""], ["", ""], [" "], ["   ", "   "], ["a", " "], [" ", "a"], ["a", " ", " "], ["a  ", "   ", "= b", "   "],
            ["   ", "a  ", "   ", "= b"], ["a  ", "= b"], ["a  ", "   ", "   ", "= b"], ["a", "", "= b"], ["a", " ", "= b"],
            ["a   ", "    ", "= b "], [" a  ", "    ", "= b "], ["a  ", "   ", "b  "], ["a  ", "   ", "=b "],
            ["a   ", "    ", "=  b"],
            ["a   ", "    ", " = b"], ["a  ", "   ", "=  "], ["a  ", "   ", "/ b"], ["a  ", "   ", "V b"],
            ["a  ", "   ", "- -"],
            ["= a", "   ", "= b"], ["a  ", "   ", "= b", "   ", "b  "], ["a =", "   ", "  b"], ["a =", "   ", "b  "],
            ["a  ", "   ", "  b"], ["a  ", "   ", "| b"], ["a  ", "  .", "= b"], ["a  ", "   ", "= B"], ["a  ", "   ", "= ="],
            ["a  ", "   ", "( b"], ["a  ", "   ", "a b"], ["a", " ", "="], ["a ", "  ", "= "], ["a  ", "   ", "== "],
            ["a    ", "     ", "= b =", "     ", "c    "], [" 2 ", "x  ", "   ", "   ", "= b"], ["a  ", "  =", "= b"],
            ["a  ", "   ", "= b", "=  "], ["01 ", "   ", "= b"], ["a\n ", "   ", "= b"], ["a  ", "   ", "= b", "\n  "],
            ["a  ", "\n  ", "= b"], ["abcdefghi", "         ", "= b      "], ["   ", "= a"],
        ):
            for width in (3, 4, 5, 9, 100, 0, -1, -FAR, FAR):
                self.is_no_page(rows, width)

    def test_a_sign_changed(self):
        for f in ROWS_OF_PARTS[:12]:
            for width in range(wide_of(f) - 1, 0, -3):
                try:
                    page = page_of(f, width)
                except TooNarrow:
                    break
                for row in range(len(page)):
                    for column in range(len(page[0])):
                        for sign in " a1-=|+*(":
                            other = self.is_read_or_refused(changed(page, row, column, sign), width)
                            self.assertEqual(other == f, page[row][column] == sign)

    def test_a_sign_that_tells_another_formula(self):
        page = page_of(add("-+-", A, B, C, TWO), 7)
        self.assertEqual(page, ["a - b  ", "       ", "+ c - 2"])
        self.assertEqual(read_page(changed(page, 2, 0, "-"), 7), add("---", A, B, C, TWO))
        self.assertEqual(read_page(changed(page, 2, 2, "x"), 7), add("-+-", A, B, X, TWO))
        self.is_no_page(changed(page, 2, 0, "*"), 7)
        self.is_no_page(changed(page, 2, 0, "="), 6)
        self.assertEqual(read_page(changed(page, 2, 0, "="), 7), even(add("-", A, B), add("-", C, TWO)))

    def test_rows_more_or_less(self):
        for f in ROWS_OF_PARTS:
            for width in range(wide_of(f), 0, -2):
                try:
                    page = page_of(f, width)
                except TooNarrow:
                    break
                blank = " " * len(page[0])
                for row in range(len(page) + 1):
                    if row < len(page):
                        self.assertNotEqual(self.is_read_or_refused(page[:row] + page[row + 1:], width), f)
                        shorter = changed(page, row, len(page[0]) - 1, "")
                        self.assertNotEqual(self.is_read_or_refused(shorter, width), f)
                    self.is_no_page(page[:row] + [""] + page[row:], width)
                    self.is_no_page(page[:row] + [blank] + page[row:], width)
                self.is_no_page([row + " " for row in page], width + 1)
                self.is_no_page([" " + row for row in page], width + 1)
                self.is_no_page([row + " " for row in page], width)

    def test_what_is_no_formula_on_a_page(self):
        for f in beyond_the_bounds():
            self.is_no_page(floor_rows(plan_of(f)), FAR)
            if f[0] in ROW_KINDS:
                half = len(parts(f)) // 2
                pieces = [half, len(parts(f)) - half]
                page = page_rows(f, pieces)
                self.is_no_page(page, len(page[0]))
        # Each piece is a formula, but all of them together are too many.
        many = add("+" * 79, *[times(A, B, C)] * 80)
        page = page_rows(many, [40, 40])
        self.assertEqual(read_page(page_of(add("+" * 39, *parts(many)[:40]), FAR), FAR), add("+" * 39, *parts(many)[:40]))
        self.is_no_page(page, len(page[0]))
        self.is_no_page([row for n in range(80) for row in ("+ a", "   ")][1:-1], 3)
        self.is_no_page(["a  "] + ["   ", "+ a"] * 80, 3)
        self.assertEqual(read_page(["a  "] + ["   ", "+ a"] * 79, 3), add("+" * 79, *[A] * 80))

    def test_tables_on_pages(self):
        f = even(table((A, B), (C, X)), table((A,), (B,), (C,)), read_line("[V{a}; b]"))
        for width in range(wide_of(f), 0, -1):
            try:
                page = page_of(f, width)
            except TooNarrow:
                self.assertLess(width, 7)
                continue
            self.assertEqual(read_page(page, width), f)

    def test_great_rows(self):
        begin = time.process_time()
        for rows in (
            ["a" + " " * 3999, " " * 4000] * 300, ["+ a" + " " * 3997, " " * 4000] * 300, ["-" * 4000, " " * 4000] * 300,
            ["(" * 4000, " " * 4000] * 300, [" " * 4000] * 600, ["a + " * 1000] * 600, ["(a) + " * 666 + "(a)"] * 600,
            ["a"] * 600, [""] * 600, ["V|" * 2000, " " * 4000] * 300, ["a + " * 999 + "a   ", " " * 4000] * 300,
            ["(" * 2000 + ")" * 2000, " " * 4000] * 300,
        ):
            for width in (4000, 3, 0, FAR):
                self.is_no_page(rows, width)
        self.assertLess(time.process_time() - begin, 20)


if __name__ == "__main__":
    unittest.main()
