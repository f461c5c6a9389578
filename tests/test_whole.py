"""What the document promises over the whole program: points 1 to 3, and the interface as it stands."""

import importlib
import inspect
import unittest

from inkform import errors
from inkform.cuts import bands_of, columns_of, cut_out, trimmed
from inkform.deeds import filled, put_in
from inkform.desk import Desk
from inkform.drawing import drawn, rows_of, shown, sketch_of
from inkform.formulas import grouped, is_formula, parts_of, rebuilt
from inkform.lines import read_line, written
from inkform.pages import page_of, pieces_of, read_page
from inkform.places import part_of, path_at, places_of
from inkform.reading import read_drawing
from tests.samples import (
    A, B, C, KINDS, REFUSALS, InkTest, add, at_the_bounds, beyond_the_bounds, even, floor_rows, mixed, nests, of_each_shape,
    plan_of,
)

# All names of the interface, with their arguments.
INTERFACE = {
    "formulas": (
        "is_formula(thing)", "level_of(f)", "parts_of(f)", "depth_of(f)", "count_of(f)", "least_level(f, n)", "rebuilt(f, some)",
        "grouped(parts, signs)",
    ),
    "lines": ("written(f)", "read_line(text)"),
    "sketches": (
        "Sketch(wide, up, down)", "Word(word)", "Chain(parts, signs)", "Over(above, beneath)", "Root(inner)", "Led(sign, inner)",
    ),
    "grown": ("Marked(item, raised, lowered)", "Held(inner)", "Grid(bands)"),
    "drawing": ("sketch_of(f)", "drawn(f)", "shown(rows)", "rows_of(text)"),
    "places": ("part_of(f, path)", "places_of(f)", "path_at(f, row, column)"),
    "cuts": (
        "trimmed(rows)", "cut_out(rows, first, end)", "base_of(rows)", "run_end(text, place, sign)", "closing(text, place)",
        "bands_of(rows)", "columns_of(rows)",
    ),
    "reading": ("read_drawing(rows)",),
    "pages": ("pieces_of(f, width)", "page_of(f, width)", "read_page(rows, width)"),
    "deeds": ("put_in(f, path, g)", "filled(f, word, g)"),
    "desk": ("Desk()",),
}


def small_formulas():
    return [f for count in range(1, 6) for f in of_each_shape(count)]


def several():
    return list(KINDS.values()) + nests() + at_the_bounds() + mixed(111, 60) + mixed(112, 100, 5, 30)


def pages_by_width(f, widths):
    pages = {}
    for width in widths:
        try:
            pages[width] = page_of(f, width)
        except errors.TooNarrow:
            pass
    return pages


class Interface(unittest.TestCase):
    def test_names_and_arguments(self):
        for module, rows in INTERFACE.items():
            for row in rows:
                word, arguments = row[:-1].split("(")
                made = getattr(importlib.import_module("inkform." + module), word)
                self.assertEqual(str(inspect.signature(made)), "(" + arguments + ")", row)
        self.assertEqual(str(inspect.signature(Desk().say)), "(row)")
        self.assertEqual(str(inspect.signature(sketch_of(A).row)), "(k)")

    def test_errors(self):
        for word in REFUSALS:
            self.assertEqual(getattr(errors, word).__bases__, (errors.InkError,))
        self.assertEqual(errors.InkError.__bases__, (ValueError,))


class OneOfEach(unittest.TestCase):
    """Each formula has one drawing, one line and one page for a width, and no two have the same."""

    def are_all_different(self, told):
        self.assertEqual(len(set(map(str, told))), len(told))

    def test_all_small_formulas(self):
        formulas = small_formulas()
        self.assertEqual(len(formulas), len(set(formulas)))
        self.are_all_different([drawn(f) for f in formulas])
        self.are_all_different([written(f) for f in formulas])

    def test_pages_of_all_small_formulas(self):
        formulas = small_formulas()
        for width in (1, 3, 4, 5, 6, 7, 9, 12):
            pages = [pages_by_width(f, [width]).get(width) for f in formulas]
            self.are_all_different([page for page in pages if page is not None])

    def test_many_formulas(self):
        formulas = list(dict.fromkeys(several()))
        self.are_all_different([drawn(f) for f in formulas])
        self.are_all_different([written(f) for f in formulas])

    def test_told_the_same_each_time(self):
        for f in several()[::5]:
            self.assertEqual(drawn(f), drawn(f))
            self.assertEqual(written(f), written(f))


class ReadAgain(InkTest):
    """Whoever reads a drawing, line or page is told the formula that has it."""

    def test_drawing_line_and_pages_tell_the_same(self):
        for f in several():
            self.assertTrue(is_formula(f))
            rows = drawn(f)
            self.assertEqual(rows, floor_rows(plan_of(f)))
            self.assertEqual(read_line(written(f)), f)
            self.assertEqual(read_drawing(rows), f)
            self.assertEqual(read_drawing(rows_of(shown(rows))), f)
            wide = len(rows[0])
            for width, page in pages_by_width(f, (wide, wide - 1, wide // 2, wide // 4)).items():
                self.assertEqual(read_page(page, width), f)

    def test_pages_of_all_small_formulas(self):
        for f in small_formulas():
            for width, page in pages_by_width(f, range(3, 10, 2)).items():
                self.assertEqual(read_page(page, width), f)

    def test_what_no_formula_has_is_refused(self):
        for beyond in beyond_the_bounds():
            self.assertFalse(is_formula(beyond))
            self.refuses("NoLine", read_line, written(beyond))
            self.refuses("NoDrawing", read_drawing, floor_rows(plan_of(beyond)))
            self.refuses("NoDrawing", read_page, floor_rows(plan_of(beyond)), 4000)

    def test_drawn_and_pointed_at_and_changed(self):
        """A part found by its place and put in again changes nothing; what is put in is found at its place."""
        for f in mixed(113, 25, 6, 30):
            rows = drawn(f)
            for row in range(0, len(rows), 1 + len(rows) // 4):
                for column in range(0, len(rows[0]), 1 + len(rows[0]) // 9):
                    path = path_at(f, row, column)
                    self.assertEqual(put_in(f, path, part_of(f, path)), f)
                    try:
                        other = put_in(f, path, add("+", A, B))
                    except errors.NoFormula:
                        continue
                    self.assertIn(part_of(other, path), (add("+", A, B), ("held", add("+", A, B))))
                    self.assertEqual(read_drawing(drawn(other)), other)


class Lists(unittest.TestCase):
    """Nothing that is handed in is changed; every list that is told is a new one and the asker's own."""

    def test_told_lists_are_the_askers_own(self):
        f = even(A, add("-", B, C))
        rows = drawn(f)
        for ask in (
            lambda: parts_of(f), lambda: drawn(f), lambda: places_of(f), lambda: pieces_of(f, 7), lambda: pieces_of(f, 99),
            lambda: page_of(f, 7), lambda: page_of(f, 99), lambda: rows_of("a\nb"), lambda: trimmed(rows),
            lambda: cut_out(rows, 0, 9), lambda: bands_of(rows), lambda: columns_of(rows), lambda: sketch_of(f).rows(),
            lambda: sketch_of(f).spots(),
        ):
            told = ask()
            self.assertIs(type(told), list)
            kept = len(told)
            told.append("more")
            again = ask()
            self.assertEqual(len(again), kept)
            again.clear()
            self.assertEqual(len(told), kept + 1)

    def test_lists_handed_in_stay(self):
        rows = ["a = b", "     ", "= c  "]
        self.assertEqual(read_page(rows, 8), even(A, B, C))
        self.assertEqual(rows, ["a = b", "     ", "= c  "])
        rows = [" a ", "---", " b "]
        read_drawing(rows)
        self.assertEqual(rows, [" a ", "---", " b "])
        some = [A, B]
        grouped(some, "+")
        rebuilt(even(A, B), some)
        self.assertEqual(some, [A, B])

    def test_what_is_done_to_rows_behind_reading_changes_nothing(self):
        rows = drawn(even(A, B))
        f = read_drawing(rows)
        rows[0] = "c"
        rows.clear()
        self.assertEqual(f, even(A, B))
        self.assertEqual(filled(f, "a", C), even(C, B))


if __name__ == "__main__":
    unittest.main()
