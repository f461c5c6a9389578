import itertools
import unittest

from inkform.errors import NoLine
from inkform.formulas import is_formula
from inkform.lines import read_line, written
from tests.samples import (
    A, B, C, KINDS, LEVELS, ONE, TWO, X, add, at_the_bounds, beyond_the_bounds, even, held, marked, mixed, name, nests, number,
    over, root, table, times,
)

# Formulas and their lines, written out by hand.
PAIRS = (
    (X, "x"),
    (name("abcdefgh"), "abcdefgh"),
    (number(0), "0"),
    (number(10), "10"),
    (number(999999999), "999999999"),
    (even(A, B), "a = b"),
    (even(A, B, C), "a = b = c"),
    (add("+", A, B), "a + b"),
    (add("-", A, B), "a - b"),
    (add("-+-", A, B, C, ONE), "a - b + c - 1"),
    (times(A, B), "a * b"),
    (times(TWO, A, B), "2 * a * b"),
    (over(A, B), "{a/b}"),
    (over(over(A, B), over(B, C)), "{{a/b}/{b/c}}"),
    (over(even(A, B), add("+", A, B)), "{a = b/a + b}"),
    (root(A), "V{a}"),
    (root(root(add("+", A, B))), "V{V{a + b}}"),
    (root(over(A, B)), "V{{a/b}}"),
    (marked(A, B, C), "a^{b}_{c}"),
    (marked(A, B, None), "a^{b}"),
    (marked(A, None, C), "a_{c}"),
    (marked(number(2), marked(A, B, None), marked(A, None, B)), "2^{a^{b}}_{a_{b}}"),
    (marked(held(A), even(A, B), None), "(a)^{a = b}"),
    (marked(table((A,)), None, over(A, B)), "[a]_{{a/b}}"),
    (held(A), "(a)"),
    (held(held(even(A, B))), "((a = b))"),
    (table((A,)), "[a]"),
    (table((A, B)), "[a, b]"),
    (table((A,), (B,)), "[a; b]"),
    (table((A, B), (C, X), (ONE, TWO)), "[a, b; c, x; 1, 2]"),
    (table((even(A, B), over(A, B)),), "[a = b, {a/b}]"),
    (even(add("+", times(A, B), C), times(A, over(A, B)), X), "a * b + c = a * {a/b} = x"),
    (times(marked(X, TWO, None), root(X), held(add("-", A, B))), "x^{2} * V{x} * (a - b)"),
    (add("+", marked(X, TWO, None), over(A, held(add("-", B, ONE)))), "x^{2} + {a/(b - 1)}"),
)

# Texts that are no line, by what is wrong in them.
WRONG = {
    "nothing": ("",),
    "blanks": (
        " ", "   ", " a", "a ", "a  ", "a+b", "a +b", "a+ b", "a  + b", "a +  b", "a + b ", " a + b", "a=b", "a *b",
        "a* b", "a*b", "a-b", "a b", "a  b", "1 2", "( a)", "(a )", "{a /b}", "{a/ b}", "{ a/b}", "{a/b }", "V {a}",
        "V{ a}", "V{a }", "a ^{b}", "a^ {b}", "a^{ b}", "a^{b }", "a^{b} _{c}", "a_ {c}", "[a,b]", "[a , b]",
        "[a,  b]", "[a;b]", "[a ; b]", "[a;  b]", "[ a]", "[a ]", "(a)(b)", "{a/b} {a/b}", "a + b + ", "()", "( )",
    ),
    "brackets": (
        "(", ")", "(a", "a)", "((a)", "(a))", ")a(", "{a/b", "a/b}", "{a/b}}", "{{a/b}", "V{a", "V{a}}", "Va", "V", "Va}",
        "V(a)", "V[a]", "a^{b", "a^b}", "a^b", "a^(b)", "a_b", "a_{b", "a_{b}}", "[a", "a]", "[[a]", "[a]]", "[a)", "(a]",
        "(a}", "{a/b)", "{a/b]", "[a}", "{a}", "{a/b/c}", "{/b}", "{a/}", "{/}", "{}", "a/b", "V{}", "[]", "[a, b", "[a; b",
        "[a;", "[a,", "{", "}", "[", "]", "V{", "{a", "{a/", "a^{", "a_{", "a^", "a_", "V{a/b}", "(a/b)", "{(a/b)}",
    ),
    "letters": (
        "A", "aB", "Ab", "V", "aV{b}", "Vb", "abcdefghi", "aaaaaaaaaaaa", "a1", "1a", "a.b", "a'", "a_b", "a~", "!", "#", "$",
        "&", "\"", "<", ">", "?", "@", "\\", "|", "`", ":", ".", "~", "x^{A}", "v{a}", "a + B",
    ),
    "numbers": (
        "00", "01", "007", "000000000", "0000000001", "1000000000", "9999999999", "12345678901", "-1", "+1", "1.5", "1,5",
        "1 000", "x^{00}", "9" * 4000, "0" * 4000, "1e5", "1_000", "{01/2}",
    ),
    "signs at an end or in a row": (
        "+", "-", "*", "=", " + ", "+ a", "- a", " - a", "a +", "a + ", "a = ", "a * ", "= a", " = a", "* a", "a + + b",
        "a - - b", "a + - b", "a = = b", "a * * b", "a +  + b", "a + b -", "(a + )", "( + a)", "(- a)", "{a + /b}", "V{a * }",
        "[a = , b]", "a ++ b", "a == b", "a ** b", "a / b", "a , b", "a, b", "a; b", "a ; b",
    ),
    "marks": (
        "a_{c}^{b}", "a^{b}^{c}", "a_{b}_{c}", "a^{b}_{c}^{a}", "a^{b}_{c}_{a}", "a^{}", "a_{}", "a^{}_{c}", "a^{b}_{}",
        "^{b}", "_{c}", "^{b}_{c}", "{a/b}^{c}", "{a/b}_{c}", "V{a}^{b}", "V{a}_{b}", "V{a}^{b}_{c}", "a + ^{b}", "(^{b})",
        "[^{a}]", "a^b", "a_1", "a^^{b}", "a^_{b}",
    ),
    "tables": (
        "[a; b, c]", "[a, b; c]", "[a, b; c, x; a]", "[a; b; c, a]", "[a, ]", "[, a]", "[a; ]", "[; a]", "[; ]", "[, ]",
        "[a,, b]", "[a, , b]", "[a;; b]", "[a;, b]", "[a, ;b]", "[[a]]", "[([a])]", "[{a/[b]}]", "[V{[a]}]", "[a^{[b]}]",
        "[a_{[b]}]", "[[a]^{b}]", "[a + [b]]", "[a * (b = {c/([a, b])})]", "([([a])])", "{a/[a, [b]; c, x]}",
    ),
    "line ends": (
        "\n", "a\n", "\na", "a\n+ b", "a +\nb", "a\n + b", "(a\n)", "(\na)", "a^{b\n}", "[a,\nb]", "[a;\nb]", "12\n", "1\n2",
        "a\nb", "a\r\n", "a + b\n",
    ),
}

# What opens a bracket, and what closes it again.
BRACKETS = (
    ("(", ")"), ("V{", "}"), ("{", "/a}"), ("{a/", "}"), ("a^{", "}"), ("a_{", "}"), ("a^{b}_{", "}"), ("[", "]"),
    ("[a, ", "]"), ("[a; ", "]"), ("a + (", ")"), ("a = b * (", ")"),
)

ALPHABET = "a0V{}()[]/^_,; +-*="


class LineTest(unittest.TestCase):
    def refuses(self, text):
        with self.subTest(text=text[:200]), self.assertRaises(NoLine):
            read_line(text)

    def is_line_or_refused(self, text):
        """Whatever is read must be a formula that has this very line."""
        try:
            f = read_line(text)
        except NoLine:
            return None
        self.assertTrue(is_formula(f), text)
        self.assertEqual(written(f), text)
        return f


class Written(LineTest):
    def test_lines_written_by_hand(self):
        for f, line in PAIRS:
            with self.subTest(line=line):
                self.assertEqual(written(f), line)

    def test_no_two_formulas_have_one_line(self):
        formulas = list(dict.fromkeys([f for f, line in PAIRS] + mixed(1, 300, 5, 12) + mixed(2, 300)))
        self.assertEqual(len({written(f) for f in formulas}), len(formulas))

    def test_every_kind_in_every_place(self):
        lines = {kind: written(f) for kind, f in KINDS.items()}
        for kind, f in KINDS.items():
            line = lines[kind]
            self.assertEqual(written(over(f, A)), "{" + line + "/a}")
            self.assertEqual(written(over(A, f)), "{a/" + line + "}")
            self.assertEqual(written(root(f)), "V{" + line + "}")
            self.assertEqual(written(held(f)), "(" + line + ")")
            self.assertEqual(written(marked(X, f, None)), "x^{" + line + "}")
            self.assertEqual(written(marked(X, None, f)), "x_{" + line + "}")
            self.assertEqual(written(marked(X, f, f)), "x^{" + line + "}_{" + line + "}")
            if kind != "table":
                self.assertEqual(written(table((A, f), (f, B))), "[a, " + line + "; " + line + ", b]")
            if LEVELS[kind] >= 1:
                self.assertEqual(written(even(f, A)), line + " = a")
            if LEVELS[kind] >= 2:
                self.assertEqual(written(add("-", A, f)), "a - " + line)
            if LEVELS[kind] >= 3:
                self.assertEqual(written(times(A, f)), "a * " + line)
            if LEVELS[kind] == 4:
                self.assertEqual(written(marked(f, ONE, None)), line + "^{1}")


class Read(LineTest):
    def reads(self, f):
        line = written(f)
        with self.subTest(line=line[:200]):
            self.assertEqual(read_line(line), f)
            self.assertTrue(is_formula(f))

    def test_lines_written_by_hand(self):
        for f, line in PAIRS:
            with self.subTest(line=line):
                self.assertEqual(read_line(line), f)

    def test_what_is_read_is_made_of_tuples_and_numbers(self):
        f = read_line("[a^{1} - b, {c/2}; V{(3)}, x * y = z]")
        self.assertEqual(repr(f), repr(table(
            (add("-", marked(A, ONE, None), B), over(C, TWO)),
            (root(held(number(3))), even(times(X, name("y")), name("z"))),
        )))

    def test_every_kind_in_every_place(self):
        for f in nests():
            self.reads(f)

    def test_mixed(self):
        for f in mixed(1, 300) + mixed(2, 500, 6, 40) + mixed(3, 300, 12, 60):
            self.reads(f)

    def test_at_the_bounds(self):
        for begin, end in BRACKETS[:10]:
            most = 1 if begin[0] == "[" else 11
            self.assertIsNotNone(self.is_line_or_refused(begin * most + "a" + end * most))
        for f in at_the_bounds():
            self.reads(f)

    def test_beyond_the_bounds(self):
        for beyond in beyond_the_bounds():
            self.refuses(written(beyond))

    def test_longest_texts(self):
        for text in ("a" * 4000, " " * 4000, "a + " * 999 + "a", "(a) * " * 660 + "(a)", "a = b + c * " * 333 + "a",
                     "[" + "a, " * 1300 + "a]", "[" + "a; " * 1300 + "a]", "a^{b}" * 800, "\n" * 4000, "=" * 4000):
            self.refuses(text)

    def test_brackets_all_the_way(self):
        for begin, end in BRACKETS:
            for times_open in (12, 13, 14, 40, 100, 4000 // (len(begin) + len(end)) - 1, 4000 // len(begin)):
                self.refuses(begin * times_open)
                self.refuses((begin * times_open)[:3999] + "a")
                if (len(begin) + len(end)) * times_open < 4000:
                    self.refuses(begin * times_open + "a" + end * times_open)
                    self.refuses(begin * times_open + end * times_open)
            self.refuses(end * (4000 // len(end)))
            self.refuses("a" + end * (3999 // len(end)))
        self.refuses("({[" * 1333)
        self.refuses("(V{{[a^{a_{" * 360)


class Refused(LineTest):
    def test_wrong_texts(self):
        for wrong, texts in WRONG.items():
            for text in texts:
                with self.subTest(wrong=wrong):
                    self.refuses(text)

    def test_one_sign_changed(self):
        for f, line in PAIRS:
            for place in range(len(line) + 1):
                for sign in ALPHABET + "b1A\n.":
                    self.is_line_or_refused(line[:place] + sign + line[place:])
                    other = self.is_line_or_refused(line[:place] + sign + line[place + 1:])
                    if line[place:place + 1] != sign:
                        self.assertNotEqual(other, f)
                self.is_line_or_refused(line[:place] + line[place + 1:])
                self.is_line_or_refused(line[:place])
                self.is_line_or_refused(line[place:])

    def test_all_short_texts(self):
        """Of all texts of up to four signs just these are lines."""
        leaves = ["a", "0", "aa", "aaa", "aaaa"]
        lines = leaves + ["(a)", "(0)", "[a]", "[0]", "(aa)", "[aa]", "V{a}", "V{0}"]
        # Of four signs no line has a mark, a bar or a sign: these need five at least.
        found = []
        for length in range(5):
            for signs in itertools.product(ALPHABET, repeat=length):
                if self.is_line_or_refused("".join(signs)) is not None:
                    found.append("".join(signs))
        self.assertEqual(sorted(found), sorted(lines))


if __name__ == "__main__":
    unittest.main()
