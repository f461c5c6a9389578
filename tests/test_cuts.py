import random
import unittest

from inkform.cuts import bands_of, base_of, closing, columns_of, cut_out, run_end, trimmed
from inkform.drawing import drawn, sketch_of
from tests.samples import KINDS, mixed


def grids(seed, how_many):
    """Rows of one length, at most 8 by 8, of blanks and signs, some of them without rows or signs."""
    chance = random.Random(seed)
    found = []
    for step in range(how_many):
        wide, high = chance.randint(0, 8), chance.randint(0, 8)
        signs = chance.choice(("    x", " x", " |/\\(a", "          -"))
        found.append(["".join(chance.choices(signs, k=wide)) for row in range(high)])
    return found


class CutTest(unittest.TestCase):
    def answers(self, asked, rows, wanted):
        """The answer is this one, a new list each time, and the rows stay."""
        kept = list(rows)
        told = asked(rows)
        self.assertEqual(told, wanted, rows)
        self.assertEqual(rows, kept)
        if wanted is not None and type(wanted) is list:
            self.assertIs(type(told), list)
            self.assertIsNot(told, rows)
            told.append("?")
            self.assertEqual(asked(rows), wanted)
            self.assertEqual(rows, kept)


class Trimmed(CutTest):
    def trims(self, rows, wanted):
        self.answers(trimmed, rows, wanted)

    def test_nothing_left(self):
        self.trims([], [])
        self.trims([""], [])
        self.trims(["", "", ""], [])
        self.trims([" "], [])
        self.trims(["   ", "   "], [])

    def test_nothing_to_cut(self):
        self.trims(["x"], ["x"])
        self.trims([" a ", "---", " b "], [" a ", "---", " b "])
        self.trims(["a ", " b"], ["a ", " b"])

    def test_each_side(self):
        self.trims(["   ", "abc"], ["abc"])
        self.trims(["abc", "   "], ["abc"])
        self.trims(["  a", "  b"], ["a", "b"])
        self.trims(["a  ", "b  "], ["a", "b"])
        self.trims(["     ", "     ", "  x  ", " y   ", "     "], [" x", "y "])

    def test_blanks_within_stay(self):
        self.trims(["    ", " a b", "    ", "    ", " c d", "    "], ["a b", "   ", "   ", "c d"])
        self.trims([" a     b "], ["a     b"])
        self.trims(["a  ", "   ", "  b"], ["a  ", "   ", "  b"])

    def test_drawings_are_trimmed_already(self):
        for f in list(KINDS.values()) + mixed(41, 30):
            rows = drawn(f)
            self.trims(rows, rows)
            wider = [" " * len(rows[0])] + rows + [" " * len(rows[0])] * 2
            self.trims(["  " + row + "   " for row in wider], rows)

    def test_against_a_cut_sign_by_sign(self):
        for rows in grids(42, 400):
            wanted = list(rows)
            while wanted and not wanted[0].strip(" "):
                wanted = wanted[1:]
            while wanted and not wanted[-1].strip(" "):
                wanted = wanted[:-1]
            while wanted and all(row[0] == " " for row in wanted):
                wanted = [row[1:] for row in wanted]
            while wanted and all(row[-1] == " " for row in wanted):
                wanted = [row[:-1] for row in wanted]
            self.trims(rows, wanted)


class CutOut(CutTest):
    def cuts(self, rows, first, end, wanted):
        self.answers(lambda given: cut_out(given, first, end), rows, wanted)

    def test_no_row(self):
        for first, end in ((0, 0), (0, 5), (3, 3), (7, 900)):
            self.cuts([], first, end, [])

    def test_rows(self):
        rows = ["abcd", "efgh", "  i "]
        self.cuts(rows, 0, 4, rows)
        self.cuts(rows, 0, 1, ["a", "e", " "])
        self.cuts(rows, 1, 3, ["bc", "fg", " i"])
        self.cuts(rows, 3, 4, ["d", "h", " "])
        self.cuts(rows, 2, 2, ["", "", ""])
        self.cuts(rows, 0, 0, ["", "", ""])
        self.cuts(rows, 4, 4, ["", "", ""])

    def test_rows_without_signs(self):
        self.cuts([""], 0, 0, [""])
        self.cuts(["", ""], 0, 0, ["", ""])

    def test_blank_rows_stay(self):
        self.cuts(["   ", "abc", "   "], 0, 2, ["  ", "ab", "  "])


class Base(CutTest):
    def is_based(self, rows, wanted):
        self.answers(base_of, rows, wanted)

    def test_one(self):
        self.is_based(["x"], 0)
        self.is_based(["x", " "], 0)
        self.is_based([" 2", "x ", " i"], 1)
        self.is_based(["/a", "/b", "(c"], 2)
        self.is_based(["(a", "\\b", "\\c"], 0)
        self.is_based(["|a", "[b", "|c"], 1)
        self.is_based(["  __", " | a", "V|--", " | b"], 2)
        for sign in "a1(-[V_)]=+*.~!":
            self.is_based(["/", "\\", sign, "|", " "], 2)

    def test_none(self):
        self.is_based([" x"], None)
        for sign in "/\\| ":
            self.is_based([sign], None)
        self.is_based(["/a", "|b", "\\c", " d"], None)
        self.is_based(["  ", "  "], None)

    def test_two(self):
        self.is_based(["a", "b"], None)
        self.is_based(["a", " ", "b"], None)
        self.is_based(["-", "-", "-"], None)

    def test_rows_without_signs(self):
        self.is_based([], None)
        self.is_based([""], None)
        self.is_based(["", ""], None)

    def test_drawings(self):
        for f in list(KINDS.values()) + mixed(43, 60):
            self.is_based(drawn(f), sketch_of(f).up)


class Runs(unittest.TestCase):
    def test_runs(self):
        self.assertEqual(run_end("--- a", 0, "-"), 3)
        self.assertEqual(run_end("--- a", 1, "-"), 3)
        self.assertEqual(run_end("--- a", 2, "-"), 3)
        self.assertEqual(run_end("a---b--", 1, "-"), 4)
        self.assertEqual(run_end("a  b", 1, " "), 3)

    def test_at_the_texts_end(self):
        self.assertEqual(run_end("a---", 1, "-"), 4)
        self.assertEqual(run_end("-", 0, "-"), 1)
        self.assertEqual(run_end("_" * 4000, 7, "_"), 4000)
        self.assertEqual(run_end("---", 3, "-"), 3)
        self.assertEqual(run_end("", 0, "-"), 0)

    def test_another_sign(self):
        self.assertEqual(run_end("--- a", 3, "-"), 3)
        self.assertEqual(run_end("--- a", 0, "_"), 0)
        self.assertEqual(run_end("abc", 1, "a"), 1)
        self.assertEqual(run_end("a---", 0, "-"), 0)


class Closing(unittest.TestCase):
    def test_one_pair(self):
        self.assertEqual(closing("()", 0), 1)
        self.assertEqual(closing("(abc)", 0), 4)
        self.assertEqual(closing("a(b)c)", 1), 3)
        self.assertEqual(closing(")) ( )", 3), 5)

    def test_within_one_another(self):
        text = "(a(b)(c(d)))(e)"
        for place, end in ((0, 11), (2, 4), (5, 10), (7, 9), (12, 14)):
            self.assertEqual(closing(text, place), end)
        self.assertEqual(closing("(" * 2000 + ")" * 2000, 0), 3999)
        self.assertEqual(closing("(" * 2000 + ")" * 2000, 1999), 2000)

    def test_not_closed(self):
        self.assertIsNone(closing("(", 0))
        self.assertIsNone(closing("(abc", 0))
        self.assertIsNone(closing("((a)", 0))
        self.assertEqual(closing("((a)", 1), 3)
        self.assertIsNone(closing(")(", 1))
        self.assertIsNone(closing("(" * 4000, 0))
        self.assertIsNone(closing("(/\\|]", 0))

    def test_what_stands_ahead_does_not_count(self):
        self.assertEqual(closing("((((x)", 3), 5)
        self.assertEqual(closing("))(x))", 2), 4)


class Bands(CutTest):
    def bands(self, rows, *wanted):
        self.answers(bands_of, rows, list(wanted))

    def test_none(self):
        self.bands([])
        self.bands([""])
        self.bands(["", ""])
        self.bands(["  ", "  "])

    def test_one(self):
        self.bands(["a"], (0, 1))
        self.bands(["a", "b", "c"], (0, 3))
        self.bands(["  ", "a ", " b"], (1, 3))
        self.bands(["a ", " b", "  "], (0, 2))
        self.bands(["   ", " . ", "   "], (1, 2))

    def test_several(self):
        self.bands(["a", " ", "b"], (0, 1), (2, 3))
        self.bands(["a", " ", " ", " ", "b"], (0, 1), (4, 5))
        self.bands([" ", "a", "b", " ", "c", " ", " ", "d", "e", " "], (1, 3), (4, 5), (7, 9))

    def test_against_a_walk_row_by_row(self):
        for rows in grids(44, 400):
            signed = [row.strip(" ") != "" for row in rows]
            firsts = [n for n in range(len(rows)) if signed[n] and (n == 0 or not signed[n - 1])]
            ends = [n + 1 for n in range(len(rows)) if signed[n] and (n == len(rows) - 1 or not signed[n + 1])]
            self.bands(rows, *zip(firsts, ends))


class Columns(CutTest):
    def columns(self, rows, *wanted):
        self.answers(columns_of, rows, list(wanted))

    def test_none(self):
        self.columns([])
        self.columns([""])
        self.columns(["", ""])
        self.columns(["   ", "   "])

    def test_one(self):
        self.columns(["a"], (0, 1))
        self.columns(["abc"], (0, 3))
        self.columns(["a + b"], (0, 5))
        self.columns(["a   ", " b  ", "  c "], (0, 3))
        self.columns(["  a b   "], (2, 5))
        self.columns([" a"], (1, 2))
        self.columns(["a  b", " -- "], (0, 4))
        self.columns(["a   b", "  -  "], (0, 5))

    def test_several(self):
        self.columns(["a  b"], (0, 1), (3, 4))
        self.columns(["a    b"], (0, 1), (5, 6))
        self.columns(["a b  c + d   e "], (0, 3), (5, 10), (13, 14))
        self.columns(["   a  b", "   -   ", "   c  d"], (3, 4), (6, 7))
        self.columns(["a  ", "   ", "  b"], (0, 3))
        self.columns(["a   ", "    ", "   b"], (0, 1), (3, 4))

    def test_a_wide_drawing(self):
        rows = ["x  " * 1333 + "x"] * 600
        self.columns(rows, *[(3 * n, 3 * n + 1) for n in range(1334)])

    def test_against_a_walk_column_by_column(self):
        for rows in grids(45, 600):
            wide = len(rows[0]) if rows else 0
            signed = [n for n in range(wide) if any(row[n] != " " for row in rows)]
            firsts = [n for n in signed if n - 1 not in signed and n - 2 not in signed]
            ends = [n + 1 for n in signed if n + 1 not in signed and n + 2 not in signed]
            self.columns(rows, *zip(firsts, ends))

    def test_tables(self):
        for f in (KINDS["table"], ("table", ((KINDS["over"], KINDS["sum"], KINDS["held"]),) * 3)):
            inner = [row[1:-1] for row in drawn(f)]
            self.assertEqual(len(columns_of(inner)), len(f[1][0]))
            self.assertEqual(len(bands_of(inner)), len(f[1]))


if __name__ == "__main__":
    unittest.main()
