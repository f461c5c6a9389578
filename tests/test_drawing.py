import unittest

from inkform import errors
from inkform.drawing import drawn, rows_of, shown, sketch_of
from inkform.formulas import is_formula
from inkform.grown import Grid, Held, Marked
from inkform.lines import read_line
from inkform.sketches import Chain, Over, Root, Sketch, Word
from tests.samples import (
    A, B, C, KINDS, ONE, TWO, X, SketchTest, add, both, even, has_table, held, marked, mixed, name, nested_held, number,
    of_count, over, parts, plan_of, root, table, times,
)

CLASSES = {
    "name": Word, "number": Word, "even": Chain, "sum": Chain, "times": Chain, "over": Over, "root": Root,
    "marked": Marked, "held": Held, "table": Grid,
}


def many():
    return list(KINDS.values()) + [nested_held(12), of_count(300)] + mixed(21, 60) + mixed(22, 150, 5, 30)


class Sketches(SketchTest):
    def is_of_its_classes(self, f, sketch):
        self.assertIs(type(sketch), CLASSES[f[0]])
        inner = [spot[0] for spot in sketch.spots()]
        self.assertEqual(len(inner), len(parts(f)))
        for part, each in zip(parts(f), inner):
            self.is_of_its_classes(part, each)

    def test_classes_of_each_kind(self):
        for kind, f in KINDS.items():
            with self.subTest(kind=kind):
                self.is_of_its_classes(f, sketch_of(f))
                self.assertIsInstance(sketch_of(f), Sketch)

    def test_classes_within_each_kind(self):
        for part in KINDS.values():
            inner = held(part)
            self.is_of_its_classes(even(inner, A), sketch_of(even(inner, A)))
            self.is_of_its_classes(add("+-", A, inner, B), sketch_of(add("+-", A, inner, B)))
            self.is_of_its_classes(times(A, inner), sketch_of(times(A, inner)))
            self.is_of_its_classes(over(part, A), sketch_of(over(part, A)))
            self.is_of_its_classes(over(A, part), sketch_of(over(A, part)))
            self.is_of_its_classes(root(part), sketch_of(root(part)))
            for f in (marked(inner, part, None), marked(A, None, part), marked(A, part, part)):
                self.is_of_its_classes(f, sketch_of(f))
            if part[0] != "table":
                self.is_of_its_classes(table((A, part), (part, B)), sketch_of(table((A, part), (part, B))))

    def test_many_formulas(self):
        for f in many():
            self.is_of_its_classes(f, sketch_of(f))
            sketch, floor = both(plan_of(f))
            self.is_spotted(sketch_of(f), floor)

    def test_marks_left_out_have_no_spot(self):
        self.assertEqual([spot[1:] for spot in sketch_of(marked(X, TWO, None)).spots()], [(0, 0), (-1, 1)])
        self.assertEqual([spot[1:] for spot in sketch_of(marked(X, None, TWO)).spots()], [(0, 0), (1, 1)])
        self.assertEqual([spot[1:] for spot in sketch_of(marked(X, ONE, TWO)).spots()], [(0, 0), (-1, 1), (1, 1)])


class Drawings(unittest.TestCase):
    def is_drawn(self, f, *rows):
        self.assertTrue(is_formula(f), f)
        self.assertEqual(drawn(f), list(rows))
        self.assertIs(type(drawn(f)), list)

    def test_names_and_numbers(self):
        self.is_drawn(X, "x")
        self.is_drawn(name("abcdefgh"), "abcdefgh")
        self.is_drawn(number(0), "0")
        self.is_drawn(number(7), "7")
        self.is_drawn(number(1000), "1000")
        self.is_drawn(number(999999999), "999999999")

    def test_rows_of_parts(self):
        self.is_drawn(even(A, B), "a = b")
        self.is_drawn(even(A, number(10), C), "a = 10 = c")
        self.is_drawn(add("+", A, B), "a + b")
        self.is_drawn(add("-+-", A, B, C, TWO), "a - b + c - 2")
        self.is_drawn(times(A, B), "a * b")
        self.is_drawn(times(A, B, TWO), "a * b * 2")
        self.is_drawn(even(add("-", times(A, B), C), times(TWO, X)), "a * b - c = 2 * x")
        self.is_drawn(even(*[A] * 80), " = ".join("a" * 80))
        self.is_drawn(add("+-" * 39 + "-", *[A] * 80), "a" + " + a - a" * 39 + " - a")

    def test_over(self):
        self.is_drawn(over(A, B), " a ", "---", " b ")
        self.is_drawn(over(A, add("-", B, ONE)), "   a   ", "-------", " b - 1 ")
        self.is_drawn(over(over(A, B), C), "  a  ", " --- ", "  b  ", "-----", "  c  ")
        self.is_drawn(over(name("abcd"), A), " abcd ", "------", "  a   ")

    def test_root(self):
        self.is_drawn(root(X), "  _", "V|x")
        self.is_drawn(root(over(A, B)), "  ___", " | a ", "V|---", " | b ")
        self.is_drawn(root(root(number(12))), "  ____", " |  __", "V|V|12")

    def test_marked(self):
        self.is_drawn(marked(X, TWO, None), " 2", "x ")
        self.is_drawn(marked(X, None, name("ij")), "x  ", " ij")
        self.is_drawn(marked(X, TWO, name("ij")), " 2 ", "x  ", " ij")
        self.is_drawn(marked(X, marked(A, B, None), None), "  b", " a ", "x  ")

    def test_held(self):
        self.is_drawn(held(X), "(x)")
        self.is_drawn(held(over(A, B)), "/ a \\", "(---)", "\\ b /")
        self.is_drawn(held(marked(X, None, A)), "(x )", "\\ a/")

    def test_table(self):
        self.is_drawn(table((X,)), "[x]")
        self.is_drawn(table((A, number(10)), (name("bcd"), C)), "|  a  10|", "[       ]", "|bcd   c|")
        self.is_drawn(table((root(X),)), "[  _]", "|V|x|")
        self.is_drawn(table((even(A, B), held(C))), "[a = b  (c)]")
        self.is_drawn(table(*[tuple([ONE] * 9)] * 9), *(["|" + "  ".join("1" * 9) + "|", "|" + " " * 25 + "|"] * 4
                      + ["[" + "  ".join("1" * 9) + "]"] + ["|" + " " * 25 + "|", "|" + "  ".join("1" * 9) + "|"] * 4))

    def test_nested_formulas(self):
        self.is_drawn(
            read_line("x^{2} + {a/(b - 1)}"),
            " 2       a    ",
            "x  + ---------",
            "      (b - 1) ",
        )
        self.is_drawn(
            read_line("x = V{({a/b})^{n}} * y_{i}"),
            "      ______     ",
            "     |     n     ",
            "     |/ a \\      ",
            "x = V|(---)  * y ",
            "     |\\ b /     i",
        )
        # Bands of three rows and two, one between: six, of which the third is the base row.
        self.is_drawn(
            read_line("[1, {1/2}; a^{n}, (V{x})]^{t} = d"),
            "           t    ",
            "|       1 |     ",
            "| 1    ---|     ",
            "[       2 ]  = d",
            "|         |     ",
            "| n  /  _\\|     ",
            "|a   (V|x)|     ",
        )
        self.is_drawn(
            read_line("{[1, a^{n}]/V{x}} - 10"),
            " [    n]      ",
            " |1  a |      ",
            "--------- - 10",
            "     _        ",
            "   V|x        ",
        )

    def test_many_formulas(self):
        for f in many():
            floor = both(plan_of(f))[1]
            self.assertEqual(drawn(f), [floor.row(k) for k in range(-floor.up, floor.down + 1)])

    def test_asked_twice(self):
        for f in KINDS.values():
            first = drawn(f)
            kept = list(first)
            second = drawn(f)
            self.assertEqual(first, second)
            self.assertIsNot(first, second)
            second.append("?")
            second[0] = "!"
            self.assertEqual(first, kept)
            self.assertEqual(drawn(f), kept)

    def test_no_two_formulas_have_one_drawing(self):
        found = {}
        for f in many() + mixed(23, 400, 4, 9):
            self.assertEqual(found.setdefault(tuple(drawn(f)), f), f)


class Forms(unittest.TestCase):
    """What point 22 says of every drawing."""

    def test_rows_and_columns(self):
        for f in many():
            rows = drawn(f)
            self.assertEqual({len(row) for row in rows}, {len(rows[0])})
            self.assertTrue(all(row.strip(" ") for row in rows))
            self.assertTrue(any(row[0] != " " for row in rows))
            self.assertTrue(any(row[-1] != " " for row in rows))

    def test_one_base_row(self):
        for f in many():
            rows = drawn(f)
            self.assertEqual([n for n, row in enumerate(rows) if row[0] not in "/\\| "], [sketch_of(f).up])

    def test_no_two_blank_columns(self):
        for f in many():
            if not has_table(f):
                columns = ["".join(signs).strip(" ") for signs in zip(*drawn(f))]
                self.assertNotIn(("", ""), list(zip(columns, columns[1:])))

    def test_brackets_are_well_nested_in_each_row(self):
        for f in many():
            for row in drawn(f):
                unclosed = 0
                for sign in row:
                    unclosed += {"(": 1, ")": -1}.get(sign, 0)
                    self.assertGreaterEqual(unclosed, 0)
                self.assertEqual(unclosed, 0)

    def items_and_signs(self, f):
        if f[0] not in ("even", "sum", "times"):
            return [f], ""
        items, signs = [], ""
        for n, part in enumerate(f[1]):
            if n > 0:
                signs += f[2][n - 1] if f[0] == "sum" else "=" if f[0] == "even" else "*"
            within = self.items_and_signs(part)
            items += within[0]
            signs += within[1]
        return items, signs

    def test_items_and_signs_by_turns(self):
        for f in many():
            rows, up = drawn(f), sketch_of(f).up
            items, signs = self.items_and_signs(f)
            column = 0
            for item, sign in zip(items, signs + "."):
                sketch = sketch_of(item)
                for n, row in enumerate(rows):
                    self.assertEqual(row[column:column + sketch.wide], sketch.row(n - up))
                    if sign != ".":
                        gap = row[column + sketch.wide:column + sketch.wide + 3]
                        self.assertEqual(gap, " " + sign + " " if n == up else "   ")
                column += sketch.wide + 3
            self.assertEqual(column - 3, len(rows[0]))

    def test_marks_stand_behind_their_item(self):
        for f in many():
            if f[0] == "marked":
                self.marks_stand_behind(f)
        for item in (X, held(over(A, B)), table((A,), (B,)), held(root(marked(X, None, A)))):
            for mark in KINDS.values():
                self.marks_stand_behind(marked(item, mark, None))
                self.marks_stand_behind(marked(item, None, mark))
                self.marks_stand_behind(marked(item, over(A, B), mark))

    def marks_stand_behind(self, f):
        up, item = sketch_of(f).up, sketch_of(f[1])
        behind = [row[item.wide:] for row in drawn(f)]
        self.assertEqual(behind[up].strip(" "), "")
        for mark, rows in ((f[2], behind[:up - item.up]), (f[3], behind[up + item.down + 1:])):
            wanted = [] if mark is None else drawn(mark)
            self.assertEqual([row.rstrip(" ") for row in rows], [row.rstrip(" ") for row in wanted])


class Texts(unittest.TestCase):
    def test_rows_shown(self):
        self.assertEqual(shown(["x"]), "x")
        self.assertEqual(shown([" a ", "---", " b "]), " a\n---\n b")
        self.assertEqual(shown([" 2", "x "]), " 2\nx")
        self.assertEqual(shown(["a  ", "   ", " b "]), "a\n\n b")
        self.assertEqual(shown(["   "]), "")
        self.assertEqual(shown(["  ", "  ", "  "]), "\n\n")
        self.assertEqual(shown([""]), "")
        self.assertEqual(shown(["", ""]), "\n")
        self.assertEqual(shown(["  a b  "]), "  a b")

    def test_texts_taken_apart(self):
        self.assertEqual(rows_of("x"), ["x"])
        self.assertEqual(rows_of(" a\n---\n b"), [" a ", "---", " b "])
        self.assertEqual(rows_of(" 2\nx"), [" 2", "x "])
        self.assertEqual(rows_of("a\n\n b"), ["a ", "  ", " b"])
        self.assertEqual(rows_of(""), [""])
        self.assertEqual(rows_of("\n"), ["", ""])
        self.assertEqual(rows_of("\n\nab\n"), ["  ", "  ", "ab", "  "])
        self.assertEqual(rows_of("  a b"), ["  a b"])
        self.assertEqual(rows_of("abc\n" * 599 + "a"), ["abc"] * 599 + ["a  "])
        self.assertEqual(rows_of("w" * 4000 + "\n"), ["w" * 4000, " " * 4000])

    def test_drawings_shown_and_taken_apart(self):
        for f in many():
            rows = drawn(f)
            kept = list(rows)
            text = shown(rows)
            self.assertEqual(rows, kept)
            self.assertEqual(text, "\n".join(row.rstrip(" ") for row in rows))
            self.assertEqual(rows_of(text), rows)
            self.assertEqual(shown(rows_of(text)), text)

    def test_told_lists_are_new(self):
        first = rows_of("a\nb")
        first.append("c")
        self.assertEqual(rows_of("a\nb"), ["a", "b"])

    def test_rows_that_end_with_a_blank(self):
        for text in (" ", "a ", "a \nb\nc", "a\nb \nc", "a\nb\nc ", " \na", "a\n ", "a\n \nb", "\n ", " \n", "abc\na  \nb"):
            with self.subTest(text=text), self.assertRaises(errors.NoDrawing):
                rows_of(text)

    def test_the_refusal(self):
        for word in ("InkError", "NoDrawing"):
            with self.assertRaises(getattr(errors, word)):
                rows_of("a ")
        with self.assertRaises(ValueError):
            rows_of("a ")
        try:
            rows_of("a ")
        except errors.InkError as refusal:
            for word in ("NoLine", "NoPart", "TooNarrow", "NoFormula", "NoRow", "NoName", "NoDeed"):
                self.assertNotIsInstance(refusal, getattr(errors, word))


if __name__ == "__main__":
    unittest.main()
