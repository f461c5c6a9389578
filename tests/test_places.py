import unittest

from inkform import errors
from inkform.drawing import drawn, sketch_of
from inkform.lines import read_line
from inkform.places import part_of, path_at, places_of
from tests.samples import (
    A, B, C, FAR, KINDS, ONE, TWO, X, add, even, held, marked, mixed, name, nested_held, number, of_count, over, parts,
    parts_by_path, root, table, times,
)

# The signs that are a part's own, by its kind; a marked one has none.
OWN_SIGNS = {
    "name": "abcdefghijklmnopqrstuvwxyz", "number": "0123456789", "even": "=", "sum": "+-", "times": "*", "over": "-",
    "root": "V|_", "marked": "", "held": "()/\\", "table": "[]|",
}


def some():
    nested = (
        "x^{2} + {a/(b - 1)}", "(V{({a/b})^{n}})_{i} = y", "[1, {1/2}; a^{n}, (V{x})]^{t} = d", "{[1, a^{n}]/V{x}} - 10",
        "x^{p^{q}}_{i_{j_{k}}}",
    )
    return list(KINDS.values()) + [read_line(text) for text in nested] + mixed(31, 40, 6, 30)


def many():
    return some() + [nested_held(12), of_count(300)] + mixed(32, 40)


class Paths(unittest.TestCase):
    def test_the_empty_path(self):
        for f in many():
            self.assertEqual(part_of(f, ()), f)

    def test_the_parts_of_each_kind(self):
        for f in list(KINDS.values()) + [marked(A, B, None), marked(A, None, B), table((A, B), (C, X))]:
            for n, part in enumerate(parts(f)):
                self.assertEqual(part_of(f, (n,)), part)

    def test_names_and_numbers_at_any_depth(self):
        f = even(add("-", times(A, over(ONE, root(held(B)))), TWO), marked(X, table((A, number(3)), (C, marked(X, ONE, TWO))), B))
        self.assertEqual(part_of(f, (0, 0, 0)), A)
        self.assertEqual(part_of(f, (0, 0, 1, 0)), ONE)
        self.assertEqual(part_of(f, (0, 0, 1, 1, 0, 0)), B)
        self.assertEqual(part_of(f, (0, 1)), TWO)
        self.assertEqual(part_of(f, (1, 0)), X)
        self.assertEqual(part_of(f, (1, 1, 1)), number(3))
        self.assertEqual(part_of(f, (1, 1, 2)), C)
        self.assertEqual(part_of(f, (1, 1, 3, 2)), TWO)
        self.assertEqual(part_of(f, (1, 2)), B)
        self.assertEqual(part_of(nested_held(12), (0,) * 11), A)

    def test_all_parts_of_many_formulas(self):
        for f in many():
            for path, part in parts_by_path(f):
                self.assertEqual(part_of(f, path), part)

    def leads_nowhere(self, f, path):
        with self.subTest(f=f, path=path), self.assertRaises(errors.NoPart):
            part_of(f, path)

    def test_paths_that_lead_nowhere(self):
        for f in KINDS.values():
            for n in (-1, -2, -FAR, len(parts(f)), len(parts(f)) + 1, FAR):
                self.leads_nowhere(f, (n,))
                self.leads_nowhere(held(f), (0, n))
        self.leads_nowhere(marked(A, B, None), (2,))
        self.leads_nowhere(marked(A, None, B), (2,))
        self.leads_nowhere(table((A, B), (C, X)), (4,))

    def test_steps_beyond_a_name_or_number(self):
        for f in many():
            for path, part in parts_by_path(f):
                for n in (-1, 0, 1, FAR):
                    if part[0] in ("name", "number"):
                        with self.assertRaises(errors.NoPart):
                            part_of(f, path + (n,))
        self.leads_nowhere(X, (0, 0))
        self.leads_nowhere(even(A, B), (2, 0))
        self.leads_nowhere(even(A, B), (-1, 0))
        self.leads_nowhere(even(A, B), (0, 0, 0))

    def test_the_refusal(self):
        for taker in (errors.NoPart, errors.InkError, ValueError):
            with self.assertRaises(taker):
                part_of(X, (0,))
        try:
            part_of(X, (0,))
        except errors.InkError as refusal:
            for word in ("NoLine", "NoDrawing", "TooNarrow", "NoFormula", "NoRow", "NoName", "NoDeed"):
                self.assertNotIsInstance(refusal, getattr(errors, word))


class Places(unittest.TestCase):
    def has_places(self, f, *places):
        told = places_of(f)
        self.assertIs(type(told), list)
        self.assertEqual(told, list(places))
        for place in told:
            self.assertIs(type(place), tuple)
            self.assertIs(type(place[0]), tuple)

    def test_names_and_numbers(self):
        self.has_places(X, ((), 0, 0, 1, 1, 0))
        self.has_places(name("abcdefgh"), ((), 0, 0, 1, 8, 0))
        self.has_places(number(120), ((), 0, 0, 1, 3, 0))

    def test_rows_of_parts(self):
        for f in (even(name("ab"), A, TWO), add("+-", name("ab"), A, TWO), times(name("ab"), A, TWO)):
            self.has_places(
                f,
                ((), 0, 0, 1, 10, 0), ((0,), 0, 0, 1, 2, 0), ((1,), 0, 5, 1, 1, 0), ((2,), 0, 9, 1, 1, 0),
            )

    def test_over(self):
        self.has_places(over(A, name("bcde")), ((), 0, 0, 3, 6, 1), ((0,), 0, 2, 1, 1, 0), ((1,), 2, 1, 1, 4, 2))

    def test_root(self):
        self.has_places(root(name("abc")), ((), 0, 0, 2, 5, 1), ((0,), 1, 2, 1, 3, 1))

    def test_marked(self):
        self.has_places(
            marked(X, name("ab"), name("cde")),
            ((), 0, 0, 3, 4, 1), ((0,), 1, 0, 1, 1, 1), ((1,), 0, 1, 1, 2, 0), ((2,), 2, 1, 1, 3, 2),
        )
        self.has_places(marked(X, TWO, None), ((), 0, 0, 2, 2, 1), ((0,), 1, 0, 1, 1, 1), ((1,), 0, 1, 1, 1, 0))
        self.has_places(marked(X, None, TWO), ((), 0, 0, 2, 2, 0), ((0,), 0, 0, 1, 1, 0), ((1,), 1, 1, 1, 1, 1))

    def test_held(self):
        self.has_places(held(name("ab")), ((), 0, 0, 1, 4, 0), ((0,), 0, 1, 1, 2, 0))

    def test_table(self):
        self.has_places(
            table((A, name("bc")), (name("def"), root(X))),
            ((), 0, 0, 4, 10, 1), ((0,), 0, 3, 1, 1, 0), ((1,), 0, 7, 1, 2, 0), ((2,), 3, 1, 1, 3, 3), ((3,), 2, 6, 2, 3, 3),
            ((3, 0), 3, 8, 1, 1, 3),
        )

    def test_a_nested_formula(self):
        #  2       a
        # x  + ---------
        #       (b - 1)
        self.has_places(
            read_line("x^{2} + {a/(b - 1)}"),
            ((), 0, 0, 3, 14, 1),
            ((0,), 0, 0, 2, 2, 1),
            ((0, 0), 1, 0, 1, 1, 1),
            ((0, 1), 0, 1, 1, 1, 0),
            ((1,), 0, 5, 3, 9, 1),
            ((1, 0), 0, 9, 1, 1, 0),
            ((1, 1), 2, 6, 1, 7, 2),
            ((1, 1, 0), 2, 7, 1, 5, 2),
            ((1, 1, 0, 0), 2, 7, 1, 1, 2),
            ((1, 1, 0, 1), 2, 11, 1, 1, 2),
        )

    def test_boxes_whose_corner_is_blank(self):
        self.has_places(
            root(over(A, B)), ((), 0, 0, 4, 5, 2), ((0,), 1, 2, 3, 3, 2), ((0, 0), 1, 3, 1, 1, 1), ((0, 1), 3, 3, 1, 1, 3),
        )

    def test_order(self):
        for f in many():
            self.assertEqual([place[0] for place in places_of(f)], [path for path, part in parts_by_path(f)])

    def test_each_box_holds_the_parts_own_drawing(self):
        for f in many():
            rows = drawn(f)
            for path, top, left, high, wide, base in places_of(f):
                sketch = sketch_of(part_of(f, path))
                self.assertEqual([row[left:left + wide] for row in rows[top:top + high]], sketch.rows())
                self.assertEqual(base - top, sketch.up)
                self.assertEqual((high, wide), (sketch.up + 1 + sketch.down, sketch.wide))

    def test_told_lists_are_new(self):
        for f in KINDS.values():
            first = places_of(f)
            kept = list(first)
            places_of(f).clear()
            self.assertEqual(first, kept)
            first.clear()
            self.assertEqual(places_of(f), kept)


class Boxes(unittest.TestCase):
    """What point 3 says of places, base rows, bars and brackets."""

    def setUp(self):
        self.formulas = many()

    def each_with_parts(self, *kinds):
        for f in self.formulas:
            boxes = {place[0]: place[1:] for place in places_of(f)}
            for path, part in parts_by_path(f):
                if part[0] in kinds:
                    yield boxes[path], [boxes[path + (n,)] for n in range(len(parts(part)))]

    def test_no_two_parts_share_a_place_unless_one_is_in_the_other(self):
        for f in self.formulas:
            taken = {}
            for path, top, left, high, wide, base in places_of(f):
                for row in range(top, top + high):
                    for column in range(left, left + wide):
                        before = taken.get((row, column), ())
                        self.assertEqual(path[:len(before)], before)
                        taken[row, column] = path

    def test_base_rows_meet(self):
        for whole, inner in self.each_with_parts("even", "sum", "times", "root", "held"):
            self.assertEqual({box[4] for box in inner}, {whole[4]})
        for whole, inner in self.each_with_parts("marked"):
            self.assertEqual(inner[0][4], whole[4])

    def test_bars_are_as_great_as_what_they_hold(self):
        for whole, inner in self.each_with_parts("over"):
            above, beneath = inner
            self.assertEqual(whole[3], max(above[3], beneath[3]) + 2)
            self.assertEqual((above[0] + above[2], beneath[0]), (whole[4], whole[4] + 1))

    def test_brackets_and_roots_are_as_great_as_what_they_hold(self):
        for whole, inner in self.each_with_parts("held"):
            self.assertEqual(whole[:4], (inner[0][0], inner[0][1] - 1, inner[0][2], inner[0][3] + 2))
        for whole, inner in self.each_with_parts("root"):
            self.assertEqual(whole[:4], (inner[0][0] - 1, inner[0][1] - 2, inner[0][2] + 1, inner[0][3] + 2))
        for whole, inner in self.each_with_parts("table"):
            self.assertEqual(whole[0], min(box[0] for box in inner))
            self.assertEqual(whole[1], min(box[1] for box in inner) - 1)
            self.assertEqual(whole[0] + whole[2], max(box[0] + box[2] for box in inner))
            self.assertEqual(whole[1] + whole[3], max(box[1] + box[3] for box in inner) + 1)


class At(unittest.TestCase):
    def test_a_drawing_place_by_place(self):
        #  2       a
        # x  + ---------
        #       (b - 1)
        f = read_line("x^{2} + {a/(b - 1)}")
        letters = {
            "s": (), "m": (0,), "x": (0, 0), "r": (0, 1), "o": (1,), "a": (1, 0), "h": (1, 1), "d": (1, 1, 0),
            "b": (1, 1, 0, 0), "n": (1, 1, 0, 1),
        }
        for row, text in enumerate(("mrsssooooaoooo", "xmsssooooooooo", "sssssohbdddnho")):
            for column, letter in enumerate(text):
                self.assertEqual(path_at(f, row, column), letters[letter], (row, column))

    def test_each_place_of_several_drawings(self):
        for f in some():
            boxes = places_of(f)
            rows = drawn(f)
            lying = {}
            for path, top, left, high, wide, base in boxes:
                for row in range(top, top + high):
                    for column in range(left, left + wide):
                        lying[row, column] = path
            for row in range(0, len(rows), 1 + len(rows) // 20):
                for column in range(0, len(rows[0]), 1 + len(rows[0]) // 30):
                    self.assertEqual(path_at(f, row, column), lying[row, column])

    def test_each_sign_is_one_parts_own(self):
        for f in some():
            rows = drawn(f)
            for row in range(0, len(rows), 1 + len(rows) // 20):
                for column in range(0, len(rows[0]), 1 + len(rows[0]) // 30):
                    if rows[row][column] != " ":
                        part = part_of(f, path_at(f, row, column))
                        self.assertIn(rows[row][column], OWN_SIGNS[part[0]])

    def test_outside(self):
        for f in some():
            rows = drawn(f)
            high, wide = len(rows), len(rows[0])
            for row in (0, high // 2, high - 1):
                for column in (-1, wide, -2, wide + 1, -FAR, FAR):
                    self.assertIsNone(path_at(f, row, column))
            for column in (0, wide // 2, wide - 1):
                for row in (-1, high, -2, high + 1, -FAR, FAR):
                    self.assertIsNone(path_at(f, row, column))
            for row, column in ((-1, -1), (high, wide), (-FAR, -FAR), (FAR, FAR), (-FAR, FAR)):
                self.assertIsNone(path_at(f, row, column))

    def test_corners_are_inside(self):
        for f in some():
            rows = drawn(f)
            for row in (0, len(rows) - 1):
                for column in (0, len(rows[0]) - 1):
                    self.assertIs(type(path_at(f, row, column)), tuple)

    def test_blanks_within_boxes(self):
        f = marked(X, name("abc"), ONE)
        self.assertEqual(path_at(f, 0, 0), ())
        self.assertEqual(path_at(f, 1, 3), ())
        self.assertEqual(path_at(f, 2, 2), ())
        self.assertEqual(path_at(f, 2, 1), (2,))
        self.assertEqual(path_at(table((A, B), (C, X)), 1, 1), ())
        self.assertEqual(path_at(table((over(A, B),)), 0, 1), (0,))
        self.assertEqual(path_at(root(over(A, B)), 0, 0), ())
        self.assertEqual(path_at(root(over(A, B)), 1, 2), (0,))


if __name__ == "__main__":
    unittest.main()
