import itertools
import time
import unittest

from inkform.drawing import drawn, rows_of
from inkform.errors import NoDrawing
from inkform.formulas import is_formula
from inkform.lines import read_line
from inkform.reading import read_drawing
from tests.samples import (
    A, B, C, KINDS, ONE, TWO, X, InkTest, add, at_the_bounds, beyond_the_bounds, changed, even, floor_rows, held, marked, mixed,
    name, nests, number, of_each_shape, over, plan_of, root, table, times,
)

SIGNS = " ab019V|_-+*=()[]/\\Az.{^,\n"

# Rows that are no drawing, by what is wrong in them. All rows stand as they are told: a sign out of place is meant.
WRONG = {
    "nothing": ([], [""], ["", ""], [""] * 600, [" "], ["   "], ["  ", "  "], [" " * 4000] * 600),
    "rows of unlike lengths": (
        ["a", ""], ["", "a"], ["x", " 2"], [" 2", "x"], ["a", "  "], [" a", "---", " b"], ["  _", "V|x "], ["(a)", ""],
        [" 2 ", "x"], ["a", "", ""],
    ),
    "blanks around": (
        ["a "], [" a"], [" a "], ["a", " "], [" ", "a"], [" a = b"], ["a = b "], [" 2 ", "x  "], ["  2", " x "],
        ["  ", " 2", "x "], [" 2", "x ", "  "], ["    ", " a  ", "--- ", " b  "], ["   ", " a ", "---", " b "],
        [" a ", "---", " b ", "   "], ["(a) "], ["  _ ", "V|x "], ["[a] "], [" [a]"],
    ),
    "signs": (
        ["a +"], ["a + "], ["+ a"], [" + a"], ["a + + b"], ["a+b"], ["a +b"], ["a+ b"], ["a  + b"], ["a +  b"], ["a   + b"],
        ["a b"], ["a  b"], ["a   b"], ["="], ["+"], ["*"], ["-"], ["a ="], ["a -"], ["a - "], ["- a"], ["a / b"], ["a : b"],
        ["a = b ="], ["a == b"], ["a -- b"], ["a * * b"], ["a | b"], ["a _ b"], ["a - - b"], ["a * b)"], ["a = = b"],
    ),
    "words": (
        ["abcdefghi"], ["a" * 4000], ["A"], ["aB"], ["Ab"], ["a1"], ["1a"], ["a_b"], ["a.b"], ["a,"], ["{a}"], ["a\nb"],
        ["\n"], ["a\n"], ["\na"], ["a^"], ["~"], ["?"], ["a'"], ["abcdefgh = abcdefghi"],
    ),
    "numbers": (
        ["00"], ["01"], ["007"], ["1000000000"], ["9999999999"], ["0" * 10], ["1" * 4000], ["a + 01"], ["00 = a"], ["1.5"],
        ["+1"], ["-1"], ["1 000"], [" 02", "x  "], [" a  ", "----", " 00 "],
    ),
    "bars": (
        ["a", "-", "b"], ["a ", "--", "b "], [" a  ", "----", " b  "], ["  a  ", "-----", "  b  "], [" ab", "---", " b "],
        ["a  ", "---", " b "], [" a ", "---", "b  "], ["  a", "---", " b "], [" a ", "---", "  b"], ["---"], [" a ", "---"],
        ["---", " b "], [" a ", "   ", "---", " b "], [" a ", "---", "   ", " b "], [" a ", "- -", " b "],
        [" a ", "-- ", " b "], [" a ", " --", " b "], [" a ", "--=", " b "], [" a ", "---", "---"], [" a ", "---", " - "],
        ["  ab  ", "------", " abcd ", "------"], ["  ab ", "-----", " abc "], [" ab   ", "------", " abcd "],
        [" ab ", "----", "  a "], [" a ", "---", " b ", "---", " c "], ["   ", "---", " b "], [" a ", "---", "   "],
        [" a   ", "--- -", " b   "], [" a  ", "---b", " b  "], [" a ", "___", " b "], [" a b ", "-----", "  c  "],
    ),
    "brackets": (
        ["("], [")"], ["()"], ["( )"], ["(a"], ["a)"], ["(a))"], ["((a)"], [")a("], ["(a)(b)"], ["(a) (b)"], ["( a)"], ["(a )"],
        ["(a]"], ["[a)"], ["/a\\"], ["\\a/"], ["|a|"], ["(a)b"], ["a(b)"], ["{a}"], ["(a)2"], ["(a + )"], ["( + a)"],
    ),
    "brackets that do not grow": (
        ["  a  ", "(---)", "  b  "], ["/ a \\", "(---)", "  b  "], ["  a  ", "(---)", "\\ b /"], ["( a )", "(---)", "( b )"],
        ["\\ a /", "(---)", "/ b \\"], ["/ a /", "(---)", "\\ b \\"], ["| a |", "(---)", "| b |"], ["/ a  ", "(---)", "\\ b /"],
        ["  a \\", "(---)", "\\ b /"], ["/ a \\", "(---)", "\\ b  "], ["/ a \\", "(---)", "  b /"], ["/ \\", "(a)"],
        ["(a)", "\\ /"], ["/ \\", "(a)", "\\ /"], ["/ 2\\", "(x)"], ["  2 ", "(x )"], ["/ 2", "(x)"],
        ["/ a )", "(---)", "\\ b /"],
        ["/  a  \\", "( --- )", "\\  b  /"], ["/a\\", "(a)"], ["/a\\", "(b)", "\\c/"],
    ),
    "roots": (
        ["V"], ["V|"], ["V|x"], ["Vx"], ["V x"], ["V|x", "  _"], ["  __", "V|x "], ["  __", "V|xy", "    "], [" __", "V|x"],
        ["___", "V|x"], ["   ", "V|x"], ["  _", "V x"], ["  _", "Vxx"], ["  _", "||x"], ["  _", " |x"], ["  _", "v|x"],
        [" |_", "V|x"], ["  _", "V|x", " | "], ["  _ ", "V|xy"], ["  _", " | ", "V|x"], ["  -", "V|x"], ["  _", "V|_"],
        ["  ____ ", "V|a + b"], ["  ______", "V|a + b "], ["  __ __", "V|a + b"], ["  ___", "   a ", "V|---", " | b "],
        ["  ___", " | a ", "V|---", "   b "], ["  ___", " | a ", " |---", "V| b "], ["  ___", "V| a ", " |---", " | b "],
        ["  ___", " | a ", " |---", " | b "], [" |___", " | a ", "V|---", " | b "], ["  ___", "|| a ", "V|---", " | b "],
        ["  _", "V| "], ["  ", "V|"], ["   _", "V|x "], ["  _", "   ", "V|x"], ["  _  ", "V|x2"], ["__", "V|"],
    ),
    "marks": (
        ["  2", "x  "], [" 2", "  ", "x "], ["x ", "  ", " 2"], ["2 ", "x "], ["2", "x"], ["x", "2"], [" 2", "x2"],
        [" 22", "x 2"],
        ["x  ", "  2"], ["x ", "2 "], ["  2  ", "x + y"], [" 2   ", "x + y"], ["   2 ", "x + y"], ["x + y", " 2   "],
        ["x + y", "  2  "], ["   2", " a  ", "--- ", " b  "], ["   2", "  _ ", "V|x "], ["  _ ", "V|x ", "   2"],
        ["  _2", "V|x "], [" +", "x "], [" a +", "x   "], [" a b", "x   "], [" 2 3", "x   "], [" 2", "x ", "  ", " 3"],
        ["   2", "x + y", " 3 "], [" 02", "x  "], [" A", "x "], [" 2 ", "x "], ["  2", " x "], ["   3", "  2", "x  "],
        [" 2 ", "x  ", "  3"], ["  2", "x  ", " 3 "], [" 2", "  ", "x ", " 3"], ["    2", " a   ", "(---)", " b   "],
    ),
    "tables": (
        ["[]"], ["[ ]"], ["[ a]"], ["[a ]"], ["[a b]"], ["[a   b]"], ["[a  b"], ["a  b]"], ["[a  b)"], ["[a][b]"], ["[a, b]"],
        ["[[a]]"], ["[[a]  b]"], ["[([a])]"], ["[  a]"], ["[a  ]"], ["|a|"], ["|a  b|"], ["[a  b  ]"], ["[a    b]"],
        ["|a|", "[b]"], ["[a]", "|b|"], ["[a]", "| |", "|b|"], ["|a|", "| |", "[b]"], ["|a|", "[ ]", " b|"],
        ["|a|", "[ ]", "|b "],
        [" a|", "[ ]", "|b|"], ["|a ", "[ ]", "|b|"], ["|a|", "[ |", "|b|"], ["|a|", "| ]", "|b|"], ["|a|", "| |", "|b|"],
        ["[a]", "[ ]", "[b]"], ["|a|", "[ ]", "| |", "|b|"], ["|a|", "| |", "[ ]", "|b|"], ["| |", "[a]", "| |"],
        ["|a   b|", "[     ]", "|cc  d|"], ["| a  b|", "[     ]", "|cc   |"], ["|a  b|", "[    ]", "|c   |"],
        ["|   b|", "[    ]", "|c  d|"], ["|a  b|", "[    ]", "|c  d"], ["|a  b|", "[-   ]", "|c  d|"], ["|a|", "[-]", "|b|"],
        ["|a  b|", "[    ]"], ["[    ]", "|c  d|"], ["/a\\", "[ ]", "\\b/"], ["|  a  b|", "[      ]", "|  c  d|"],
        ["[" + "  ".join("a" * 10) + "]"], ["| a |", "[---]"], ["| a  c|", "[---  ]", "| b   |"],
    ),
}


def nested(nest, depth):
    f = A
    for step in range(depth - 1):
        f = nest(f)
    return f


class ReadingTest(InkTest):
    def is_read(self, f, *rows):
        """These rows are the formula, which is made of tuples, and they stay as they are."""
        given = list(rows)
        with self.subTest(rows=rows[:20]):
            self.assertEqual(repr(read_drawing(given)), repr(f))
            self.assertEqual(given, list(rows))

    def is_no_drawing(self, rows):
        kept = list(rows)
        with self.subTest(rows=rows[:20]):
            self.refuses("NoDrawing", read_drawing, rows)
            self.assertEqual(rows, kept)

    def is_read_or_refused(self, rows):
        """Whatever is read must be a formula that has this very drawing."""
        try:
            f = read_drawing(rows)
        except NoDrawing:
            return None
        self.assertTrue(is_formula(f), rows)
        self.assertEqual(floor_rows(plan_of(f)), rows)
        return f


class ByHand(ReadingTest):
    def test_names_and_numbers(self):
        self.is_read(X, "x")
        self.is_read(name("abcdefgh"), "abcdefgh")
        self.is_read(name("zz"), "zz")
        self.is_read(number(0), "0")
        self.is_read(number(7), "7")
        self.is_read(number(10), "10")
        self.is_read(number(100200), "100200")
        self.is_read(number(999999999), "999999999")

    def test_rows_of_parts(self):
        self.is_read(even(A, B), "a = b")
        self.is_read(even(A, B, number(10)), "a = b = 10")
        self.is_read(add("+", A, B), "a + b")
        self.is_read(add("-", A, B), "a - b")
        self.is_read(add("-+-", A, B, C, TWO), "a - b + c - 2")
        self.is_read(times(name("ab"), ONE, C), "ab * 1 * c")
        self.is_read(even(add("-", times(A, B), C), times(TWO, X)), "a * b - c = 2 * x")
        self.is_read(add("+-", A, times(B, C), X), "a + b * c - x")
        self.is_read(even(A, add("+", B, C), X), "a = b + c = x")

    def test_over(self):
        self.is_read(over(A, B), " a ", "---", " b ")
        self.is_read(over(A, number(12)), " a  ", "----", " 12 ")
        self.is_read(over(number(12), A), " 12 ", "----", " a  ")
        self.is_read(over(A, name("bcd")), "  a  ", "-----", " bcd ")
        self.is_read(over(over(A, B), C), "  a  ", " --- ", "  b  ", "-----", "  c  ")
        self.is_read(over(A, over(B, C)), "  a  ", "-----", "  b  ", " --- ", "  c  ")
        self.is_read(over(even(A, B), add("-", A, B)), " a = b ", "-------", " a - b ")
        self.is_read(add("-", A, over(B, C)), "     b ", "a - ---", "     c ")
        self.is_read(add("-", over(A, B), over(B, C)), " a     b ", "--- - ---", " b     c ")

    def test_root(self):
        self.is_read(root(X), "  _", "V|x")
        self.is_read(root(number(120)), "  ___", "V|120")
        self.is_read(root(over(A, B)), "  ___", " | a ", "V|---", " | b ")
        self.is_read(root(root(X)), "  ___", " |  _", "V|V|x")
        self.is_read(add("+", root(add("+", A, B)), C), "  _____    ", "V|a + b + c")
        self.is_read(root(marked(A, None, TWO)), "  __", "V|a ", " | 2")

    def test_marked(self):
        self.is_read(marked(X, TWO, None), " 2", "x ")
        self.is_read(marked(X, None, TWO), "x ", " 2")
        self.is_read(marked(X, ONE, TWO), " 1", "x ", " 2")
        self.is_read(marked(number(12), name("ab"), C), "  ab", "12  ", "  c ")
        self.is_read(marked(X, A, name("bcd")), " a  ", "x   ", " bcd")
        self.is_read(marked(X, marked(A, B, None), None), "  b", " a ", "x  ")
        self.is_read(marked(X, marked(A, None, B), None), " a ", "  b", "x  ")
        self.is_read(marked(X, None, marked(A, B, None)), "x  ", "  b", " a ")
        self.is_read(marked(X, None, marked(A, None, B)), "x  ", " a ", "  b")
        self.is_read(add("+", marked(X, TWO, None), marked(X, None, ONE)), " 2     ", "x  + x ", "      1")
        self.is_read(marked(X, add("-", A, B), None), " a - b", "x     ")
        self.is_read(marked(X, over(A, B), ONE), "  a ", " ---", "  b ", "x   ", " 1  ")
        self.is_read(marked(held(over(A, B)), TWO, None), "     2", "/ a \\ ", "(---) ", "\\ b / ")
        self.is_read(marked(table((A,), (B,)), None, X), "|a| ", "[ ] ", "|b| ", "   x")
        self.is_read(even(marked(A, B, None), marked(A, None, root(B))), " b       ", "a  = a   ", "        _", "      V|b")

    def test_held(self):
        self.is_read(held(A), "(a)")
        self.is_read(held(held(number(10))), "((10))")
        self.is_read(times(held(add("+", A, B)), held(C)), "(a + b) * (c)")
        self.is_read(held(over(A, B)), "/ a \\", "(---)", "\\ b /")
        self.is_read(held(root(A)), "/  _\\", "(V|a)")
        self.is_read(held(marked(X, None, TWO)), "(x )", "\\ 2/")
        self.is_read(held(held(over(A, B))), "// a \\\\", "((---))", "\\\\ b //")

    def test_table(self):
        self.is_read(table((A,)), "[a]")
        self.is_read(table((A, B)), "[a  b]")
        self.is_read(table((A,), (B,)), "|a|", "[ ]", "|b|")
        self.is_read(table((A, number(10)), (name("abc"), B)), "|  a  10|", "[       ]", "|abc   b|")
        self.is_read(table((A,), (B,), (C,)), "|a|", "| |", "[b]", "| |", "|c|")
        self.is_read(table((over(A, B), C)), "| a    |", "[---  c]", "| b    |")
        self.is_read(table((add("-", A, B), even(A, B))), "[a - b  a = b]")
        self.is_read(table((root(A),), (B,)), "|  _|", "[V|a]", "|   |", "|  b|")
        self.is_read(even(table((A,), (B,)), X), "|a|    ", "[ ] = x", "|b|    ")
        self.is_read(table((A, marked(X, TWO, None))), "[    2]", "|a  x |")
        # The base row of a table is none of its bands' own: brackets stand in it as they grew.
        self.is_read(table((A,), (held(over(A, B)),)), "|    a|", "|     |", "[/ a \\]", "|(---)|", "|\\ b /|")

    def test_kinds_within_one_another(self):
        self.is_read(read_line("x^{2} + {a/(b - 1)}"), " 2       a    ", "x  + ---------", "      (b - 1) ")
        self.is_read(
            read_line("V{[1, 2]^{t}} = {V{x}/2}"),
            "  _______      _ ",
            " |      t    V|x ",
            "V|[1  2]  = -----",
            "              2  ",
        )

    def test_texts_of_drawings(self):
        self.assertEqual(read_drawing(rows_of(" 2\nx  + 1")), add("+", marked(X, TWO, None), ONE))
        self.is_no_drawing(rows_of(""))
        self.is_no_drawing(rows_of("a\n"))
        self.is_no_drawing(rows_of("\na"))


class DrawnAndRead(ReadingTest):
    def test_each_kind_in_each_place(self):
        for f in list(KINDS.values()) + nests():
            self.is_read(f, *floor_rows(plan_of(f)))

    def test_at_the_bounds(self):
        for f in at_the_bounds():
            self.is_read(f, *drawn(f))

    def test_all_small_formulas(self):
        for count in range(1, 6):
            for f in of_each_shape(count):
                self.assertEqual(read_drawing(drawn(f)), f)

    def test_mixed(self):
        for f in mixed(61, 250) + mixed(62, 400, 6, 40) + mixed(63, 150, 12, 80):
            self.assertEqual(repr(read_drawing(drawn(f))), repr(f))

    def test_drawings_told_by_the_tests(self):
        for f in mixed(64, 150, 6, 40):
            self.is_read(f, *floor_rows(plan_of(f)))

    def test_reading_twice(self):
        for f in mixed(65, 20):
            rows = drawn(f)
            self.assertEqual(read_drawing(rows), f)
            self.assertEqual(read_drawing(rows), f)
            self.assertEqual(rows, drawn(f))


class Refused(ReadingTest):
    def test_wrong_rows(self):
        for wrong, several in WRONG.items():
            for rows in several:
                with self.subTest(wrong=wrong):
                    self.is_no_drawing(rows)

    def test_wrong_rows_within_others(self):
        """What is no drawing is none in brackets either, nor over a bar, nor in a table."""
        for several in WRONG.values():
            for rows in several:
                if rows != [] and len(set(map(len, rows))) == 1 and len(rows) < 20:
                    wide = len(rows[0])
                    for base in range(len(rows)):
                        edges = ["/\\" if n < base else "()" if n == base else "\\/" for n in range(len(rows))]
                        self.is_read_or_refused([edge[0] + row + edge[1] for edge, row in zip(edges, rows)])
                    for text in ("[]", "||"):
                        self.is_read_or_refused([text[0] + row + text[1] for row in rows])
                    self.is_no_drawing([" " + row + " " for row in rows] + ["-" * (wide + 2), " a".ljust(wide + 2)])

    def test_beyond_the_bounds(self):
        for f in beyond_the_bounds():
            self.is_no_drawing(floor_rows(plan_of(f)))

    def test_levels_too_low(self):
        for f in (
            marked(over(A, B), TWO, None), marked(root(A), TWO, None), marked(root(A), None, TWO), marked(over(A, B), ONE, TWO),
        ):
            self.is_no_drawing(floor_rows(plan_of(f)))

    def test_one_sign_changed(self):
        for f in list(KINDS.values()) + nests()[::7] + mixed(71, 12, 4, 10):
            rows = drawn(f)
            for row in range(len(rows)):
                for column in range(len(rows[0])):
                    for sign in SIGNS:
                        other = self.is_read_or_refused(changed(rows, row, column, sign))
                        self.assertEqual(other == f, sign == rows[row][column])

    def test_one_sign_of_many_changed_in_great_drawings(self):
        for f in mixed(72, 12):
            rows = drawn(f)
            for row in range(0, len(rows), 1 + len(rows) // 5):
                for column in range(0, len(rows[0]), 1 + len(rows[0]) // 7):
                    for sign in " a|-":
                        other = self.is_read_or_refused(changed(rows, row, column, sign))
                        self.assertEqual(other == f, sign == rows[row][column])

    def test_a_sign_that_tells_another_formula(self):
        self.is_read(even(A, C), *changed(drawn(even(A, B)), 0, 4, "c"))
        self.is_read(add("+", A, B), *changed(drawn(even(A, B)), 0, 2, "+"))
        self.is_read(times(A, B), *changed(drawn(add("-", A, B)), 0, 2, "*"))
        self.is_read(over(B, B), *changed(drawn(over(A, B)), 0, 1, "b"))
        self.is_read(held(ONE), *changed(drawn(held(A)), 0, 1, "1"))

    def test_one_sign_more_or_less_in_a_row(self):
        for f in list(KINDS.values()) + nests()[::5]:
            rows = drawn(f)
            for row in range(len(rows)):
                for column in range(len(rows[0])):
                    other = self.is_read_or_refused(changed(rows, row, column, ""))
                    self.assertNotEqual(other, f)
                    for sign in " a-(|":
                        other = self.is_read_or_refused(changed(rows, row, column, sign + rows[row][column]))
                        self.assertNotEqual(other, f)

    def test_rows_more_or_less(self):
        for f in list(KINDS.values()) + nests()[::3] + mixed(73, 20, 6, 30):
            rows = drawn(f)
            for row in range(len(rows) + 1):
                self.assertNotEqual(self.is_read_or_refused(rows[:row] + rows[row + 1:]), f if row < len(rows) else None)
                for more in [" " * len(rows[0]), rows[min(row, len(rows) - 1)], "-" * len(rows[0])]:
                    self.assertNotEqual(self.is_read_or_refused(rows[:row] + [more] + rows[row:]), f)
            self.is_no_drawing(rows + [" " * len(rows[0])])
            self.is_no_drawing([" " * len(rows[0])] + rows)
            self.is_no_drawing(rows + [""])

    def test_columns_more_or_less(self):
        for f in list(KINDS.values()) + nests()[::3] + mixed(74, 20, 6, 30):
            rows = drawn(f)
            for column in range(len(rows[0]) + 1):
                if column < len(rows[0]):
                    self.assertNotEqual(self.is_read_or_refused([row[:column] + row[column + 1:] for row in rows]), f)
                    twice = [row[:column + 1] + row[column:] for row in rows]
                    self.assertNotEqual(self.is_read_or_refused(twice), f)
                self.assertNotEqual(self.is_read_or_refused([row[:column] + " " + row[column:] for row in rows]), f)
            self.is_no_drawing([row + " " for row in rows])
            self.is_no_drawing([" " + row for row in rows])

    def test_rows_turned_over(self):
        for f in list(KINDS.values()) + nests()[::3]:
            rows = drawn(f)
            self.is_read_or_refused(rows[::-1])
            self.is_read_or_refused([row[::-1] for row in rows])
            self.is_read_or_refused(["".join(column) for column in zip(*rows)])


class AllRows(ReadingTest):
    """Of all rows of so many signs just the ones told are drawings."""

    def are_drawings(self, signs, high, wide, *formulas):
        found = []
        for all_signs in itertools.product(signs, repeat=high * wide):
            rows = ["".join(all_signs[n:n + wide]) for n in range(0, high * wide, wide)]
            f = self.is_read_or_refused(rows)
            if f is not None:
                found.append(f)
        self.assertEqual(sorted(map(repr, found)), sorted(map(repr, formulas)))

    def test_one_row(self):
        signs = "a0V|_-+*=()[]/\\ "
        zero = number(0)
        self.are_drawings(signs, 1, 1, A, zero)
        self.are_drawings(signs, 1, 2, name("aa"))
        self.are_drawings(signs, 1, 3, name("aaa"), held(A), held(zero), table((A,)), table((zero,)))
        self.are_drawings(signs, 1, 4, name("aaaa"), held(name("aa")), table((name("aa"),)))
        rows = [make(*pair) for make in (even, times) for pair in ((A, A), (A, ONE), (ONE, A), (ONE, ONE))]
        self.are_drawings(
            "a1=* (]", 1, 5, name("aaaaa"), number(11111), *rows,
        )

    def test_two_rows(self):
        aa = name("aa")
        self.are_drawings("a0V|_-() ", 2, 2, marked(A, A, None), marked(A, number(0), None), marked(A, None, A),
                          marked(A, None, number(0)), marked(number(0), A, None), marked(number(0), number(0), None),
                          marked(number(0), None, A), marked(number(0), None, number(0)))
        self.are_drawings("aV|_ ", 2, 3, root(A), marked(A, aa, None), marked(A, None, aa), marked(aa, A, None),
                          marked(aa, None, A))

    def test_three_rows(self):
        aa = name("aa")
        self.are_drawings(
            "a- ", 3, 3, over(A, A), marked(A, aa, aa), marked(A, aa, A), marked(A, A, aa), marked(aa, A, A),
            marked(A, marked(A, A, None), None), marked(A, marked(A, None, A), None),
            marked(A, None, marked(A, A, None)), marked(A, None, marked(A, None, A)),
        )
        self.are_drawings("a[]| ", 3, 2, marked(A, A, A))
        table_rows = itertools.product("|[] ", "a ", "|[] ", "|[ ", " a", "]|", "|[] ", "a ", "|[] ")
        found = [self.is_read_or_refused(["".join(signs[n:n + 3]) for n in (0, 3, 6)]) for signs in table_rows]
        self.assertEqual([f for f in found if f is not None], [table((A,), (A,))])


class Deep(ReadingTest):
    NESTS = (
        held, root, lambda f: over(f, A), lambda f: over(A, f), lambda f: marked(A, f, None), lambda f: marked(A, None, f),
        lambda f: marked(A, f, B), lambda f: even(A, held(f)), lambda f: root(held(f)), lambda f: marked(held(f), A, None),
        lambda f: times(root(f), A),
    )

    def test_from_twelve_on(self):
        for nest in self.NESTS:
            for depth in (2, 5, 6, 7, 11, 12, 13, 14, 40):
                f = nested(nest, depth)
                if is_formula(f):
                    self.is_read(f, *floor_rows(plan_of(f)))
                else:
                    self.is_no_drawing(floor_rows(plan_of(f)))

    def test_as_deep_as_rows_can_be(self):
        for deep in (100, 500, 1000, 1999):
            for inner in ("a", "", "+"):
                self.is_no_drawing(["(" * deep + inner + ")" * deep])
            self.is_no_drawing(["(" * deep])
            self.is_no_drawing(["(" * deep + "a"])
            self.is_no_drawing(["[" * deep + "a" + "]" * deep])
            self.is_no_drawing(["V|" * deep])
            stems = min(deep, 599)
            roofs = [" |" * n + "  " + "_" * (2 * (stems - n) - 1) for n in range(stems)]
            self.is_no_drawing(roofs + ["V|" * stems + "a"])

    def test_bars_in_great_number(self):
        for many in (12, 13, 100, 299):
            longer = ["-" * (2 * n + 1) for n in range(1, many + 1)]
            rows = ["a"] + [row for bar in longer for row in (bar, "a")]
            self.is_no_drawing([row.center(2 * many + 1) for row in rows])
        self.is_no_drawing(["-" * 600] * 600)
        self.is_no_drawing([" " * n + "-" * (4000 - 2 * n) + " " * n for n in range(600)])
        self.is_no_drawing([" " * n + "-" * (4000 - 2 * n) + " " * n for n in range(599, -1, -1)])

    def test_stairs_of_marks(self):
        for many in (11, 12, 13, 100, 600):
            raised = [" " * (many - 1 - n) + "a" + " " * n for n in range(many)]
            for rows in (raised, raised[::-1]):
                if many <= 12:
                    self.assertEqual(len(rows), many)
                    self.assertIsNotNone(self.is_read_or_refused(rows))
                else:
                    self.is_no_drawing(rows)


class Great(ReadingTest):
    """Rows up to 600 and of up to 4,000 signs, each in a short time."""

    def is_no_drawing(self, rows):
        begin = time.process_time()
        ReadingTest.is_no_drawing(self, rows)
        self.assertLess(time.process_time() - begin, 2)

    def test_one_sign_alone(self):
        for sign in " a0V|_-+*=()[]/\\Z\n":
            self.is_no_drawing([sign * 4000] * 600)
            self.is_no_drawing([" " * 4000] * 300 + [sign * 4000] + [" " * 4000] * 299)
            self.is_no_drawing([sign + " " * 3999] * 600)
            self.is_no_drawing([sign] * 600)

    def test_many_items(self):
        for item, above, beneath in (
            ("a", " ", " "), ("(a)", "/|\\", "\\|/"), ("(a)", "   ", "   "), ("[a]", "| |", "| |"), ("---", " a ", " a "),
            ("---", "|a|", " - "), ("V|a", " ||", " ||"), ("V|a", "  _", "   "), ("a ", " a", " a"),
        ):
            for sign in "+=-*":
                between = " " + sign + " "
                many = (4000 + 3) // (len(item) + 3)
                for high in (1, 300):
                    rows = ["   ".join([above] * many)] * high + [between.join([item] * many)]
                    self.is_no_drawing(rows + ["   ".join([beneath] * many)] * (high - 1))

    def test_many_items_deep_within(self):
        for deep in (5, 11, 12, 200):
            wide = 4000 - 2 * deep
            base = ["(" * deep + ("a + " * 1000)[:wide - 2].ljust(wide, "a") + ")" * deep]
            for inner in ("|" * wide, " " * wide, ("a   " * 1000)[:wide]):
                above = ["/" * deep + inner + "\\" * deep] * 299
                self.is_no_drawing(above + base + ["\\" * deep + inner + "/" * deep] * 300)

    def test_many_cells(self):
        inside = ("a  " * 1333)[:3998]
        rows = [inside if n % 2 == 0 else " " * 3998 for n in range(599)]
        self.is_no_drawing(["[" + row + "]" if n == 299 else "|" + row + "|" for n, row in enumerate(rows)])
        cell = ("a" * 3998).ljust(3998)
        self.is_no_drawing(["[" + cell + "]" if n == 299 else "|" + cell + "|" for n in range(600)])

    def test_drawings_of_great_formulas(self):
        wide = even(*[times(*[number(999999999)] * 2)] * 79 + [held(times(*[number(999999999)] * 60))])
        self.is_read(wide, *drawn(wide))
        cells = table(*[tuple([number(999999999)] * 9)] * 9)
        great = add("+-", cells, root(cells), marked(cells, None, A))
        self.is_read(great, *drawn(great))
        high = A
        for step in range(8):
            high = over(high, high) if step < 7 else held(high)
        self.is_read(high, *drawn(high))


if __name__ == "__main__":
    unittest.main()
