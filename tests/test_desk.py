import random
import unittest

from inkform import desk as desk_module
from inkform.deeds import filled, put_in
from inkform.desk import Desk
from inkform.drawing import drawn, shown
from inkform.errors import InkError
from inkform.lines import read_line, written
from inkform.pages import page_of
from inkform.places import part_of, path_at
from tests.samples import InkTest, at_the_bounds, both, floor_rows, mixed, nested_held, of_count, parts_by_path, plan_of

EXAMPLE = "x^{2} + {a/(b - 1)}"


def state(desk):
    """All that is told by a desk's questions: its names and their lines."""
    return {word: desk.say("line " + word) for word in desk.say("names").split()}


class DeskTest(InkTest):
    def setUp(self):
        self.desk = Desk()

    def does(self, *rows):
        for row in rows:
            with self.subTest(row=row[:200]):
                self.assertEqual(self.desk.say(row), "ok")

    def answers(self, row, answer):
        """The question is answered so, each time it is asked, and changes nothing."""
        before = state(self.desk)
        for step in range(2):
            with self.subTest(row=row[:200]):
                told = self.desk.say(row)
                self.assertIs(type(told), str)
                self.assertEqual(told, answer)
        self.assertEqual(state(self.desk), before)

    def is_refused(self, word, *rows):
        for row in rows:
            before = state(self.desk)
            with self.subTest(row=row[:200]):
                self.refuses(word, self.desk.say, row)
            self.assertEqual(state(self.desk), before)


class Let(DeskTest):
    def test_let(self):
        self.does("let x a + b")
        self.answers("line x", "a + b")
        self.does("let x 12")
        self.answers("line x", "12")
        self.does("let abcdefgh " + EXAMPLE)
        self.answers("line abcdefgh", EXAMPLE)
        self.answers("names", "abcdefgh x")

    def test_names_that_are_first_words(self):
        for word in ("let", "scan", "put", "fill", "drop", "undo", "names", "line", "draw", "size", "point", "page"):
            self.does("let " + word + " " + word)
            self.answers("line " + word, word)

    def test_no_line(self):
        self.is_refused(
            "NoLine", "let x ", "let x  ", "let x  a", "let x a ", "let x a +", "let x A", "let x a+b", "let x (", "let x 01",
            "let x {a/b", "let x " + "(" * 3000, "let x (" + written(nested_held(12)) + ")", "let x a b",
        )

    def test_great_formulas(self):
        for f in at_the_bounds():
            self.does("let x " + written(f))
            self.answers("line x", written(f))


class Scan(DeskTest):
    def test_scan(self):
        self.does("scan x\na")
        self.answers("line x", "a")
        self.does("scan x\n 2       a\nx  + ---------\n      (b - 1)")
        self.answers("line x", EXAMPLE)
        self.does("scan abcdefgh\n  _\nV|x")
        self.answers("line abcdefgh", "V{x}")

    def test_drawings_told_are_read(self):
        for f in at_the_bounds() + mixed(101, 30):
            self.does("let x " + written(f))
            self.does("scan y\n" + self.desk.say("draw x"))
            self.answers("line y", written(f))

    def test_no_drawing(self):
        self.is_refused(
            "NoDrawing", "scan x\n", "scan x\n ", "scan x\n\n", "scan x\na ", "scan x\n a", "scan x\na\n", "scan x\n\na",
            "scan x\nA", "scan x\na +", "scan x\n a \n---\n b", "scan x\n a\n---\n b ", "scan x\n2\nx", "scan x\n" + "\n" * 599,
            "scan x\n01", "scan x\nscan x\na", "scan x\n" + "(" * 4000, "scan x\na\n\na",
        )

    def test_no_row(self):
        self.is_refused(
            "NoRow", "scan x", "scan", "scan ", "scan x ", "scan x a", "scan\nx", "scan\n", "scan \na", "scan  x\na",
            "scan x \na",
            "scan x y\na", " scan x\na", "scan  \na", "scan\nx\na", "Scan x\na", "scanx\na", "\nscan x\na", "scan x  \na",
        )

    def test_no_name(self):
        self.is_refused(
            "NoName", "scan X\na", "scan abcdefghi\na", "scan 1\na", "scan x1\nA", "scan X\n", "scan a.b\na ", "scan x_\na",
        )


class Put(DeskTest):
    def test_put(self):
        self.does("let x " + EXAMPLE, "put x 2 7 c = d")
        self.answers("line x", "x^{2} + {a/((c = d) - 1)}")
        self.does("put x 0 1 3")
        self.answers("line x", "x^{3} + {a/((c = d) - 1)}")
        self.does("put x 1 0 a * b")
        self.answers("line x", "(a * b)^{3} + {a/((c = d) - 1)}")

    def test_put_at_the_whole(self):
        self.does("let x a = b", "put x 0 2 c")
        self.answers("line x", "c")
        self.does("put x 0 0 a = b")
        self.answers("line x", "a = b")

    def test_put_at_blanks(self):
        self.does("let x {a/bcd}", "put x 0 0 c")
        self.answers("line x", "c")

    def test_the_name_itself_stays_with_others(self):
        self.does("let x a", "let y a", "put x 0 0 b")
        self.answers("line y", "a")

    def test_each_place_of_several(self):
        for f in [read_line(EXAMPLE)] + mixed(102, 8, 4, 12):
            rows = drawn(f)
            for row in range(len(rows)):
                for column in range(len(rows[0])):
                    self.does("let x " + written(f))
                    try:
                        after = written(put_in(f, path_at(f, row, column), read_line("a = b")))
                    except InkError:
                        self.is_refused("NoFormula", "put x " + str(row) + " " + str(column) + " a = b")
                        continue
                    self.does("put x " + str(row) + " " + str(column) + " a = b")
                    self.answers("line x", after)

    def test_refused_in_its_order(self):
        self.does("let x a", "let deep " + written(nested_held(12)), "let t [a]", "let many " + written(of_count(300)))
        self.is_refused("NoPart", "put x 1 0 b", "put x 0 1 b", "put x 999999 999999 b", "put x 0 999999 b")
        self.is_refused("NoPart", "put x 1 0 ", "put x 1 0 B", "put x 0 1  b", "put deep 0 23 (a)", "put t 0 3 [a]")
        self.is_refused("NoLine", "put x 0 0 ", "put x 0 0  ", "put x 0 0  b", "put x 0 0 b ", "put x 0 0 B", "put x 0 0 0 0")
        self.is_refused("NoLine", "put deep 0 11 ((", "put t 0 1 [", "put many 0 0 a +")
        self.is_refused("NoFormula", "put deep 0 11 (a)", "put t 0 1 [a]", "put many 0 0 {a/b}", "put t 0 1 V{[a, b]}")
        self.is_refused("NoName", "put y 0 0 b", "put y 5 5 B", "put X 0 0 b", "put abcdefghi 9 9 ", "put y 0 0 ")
        self.is_refused("NoRow", "put y 0 0", "put X 0 b", "put Y -1 0 b", "put Y 00 0 b", "put y 0 1000000 b")

    def test_no_row(self):
        self.does("let x a")
        self.is_refused(
            "NoRow", "put", "put ", "put x", "put x ", "put x 0", "put x 0 ", "put x 0 0", "put x  0 0 b", "put  x 0 0 b",
            "put x 0  0 b", "put x a 0 b", "put x 0 a b", "put x 0 0\nb", "put x 0 0 b\n", "put x 0 0 \n", "put x 0\n0 b",
            "put x -1 0 b", "put x 0 -1 b", "put x +1 0 b", "put x 0 +1 b", "put x 01 0 b", "put x 0 00 b", "put x 1000000 0 b",
            "put x 0 0000000 b", "put x 1.0 0 b", "put x 0 1_0 b", " put x 0 0 b", "put 0 0 x b", "put x 0\t0 b",
        )


class Fill(DeskTest):
    def test_fill(self):
        self.does("let x a + b * a", "let y c - 1", "fill x a y")
        self.answers("line x", "(c - 1) + b * (c - 1)")
        self.answers("line y", "c - 1")

    def test_with_itself(self):
        self.does("let x a + b", "fill x a x")
        self.answers("line x", "(a + b) + b")
        self.does("let y y", "fill y y y")
        self.answers("line y", "y")

    def test_a_word_that_is_nowhere(self):
        self.does("let x a", "let y b", "fill x c y")
        self.answers("line x", "a")
        self.does("undo", "undo", "undo")
        self.is_refused("NoDeed", "undo")

    def test_the_word_is_no_name_of_the_desk(self):
        self.does("let x a", "let y 1", "fill x a y")
        self.answers("line x", "1")
        self.answers("names", "x y")

    def test_many(self):
        for f in mixed(103, 60, 5, 20):
            words = {part[1] for path, part in parts_by_path(f) if part[0] == "name"}
            for word in sorted(words)[:3] + ["nowhere"]:
                for g in ("a = b", "V{x}", "7"):
                    self.does("let x " + written(f), "let y " + g)
                    try:
                        after = written(filled(f, word, read_line(g)))
                    except InkError:
                        self.is_refused("NoFormula", "fill x " + word + " y")
                        continue
                    self.does("fill x " + word + " y")
                    self.answers("line x", after)

    def test_refused(self):
        self.does("let x a", "let t [a]", "let deep " + written(nested_held(12)), "let h (a)")
        self.is_refused("NoFormula", "fill t a t", "fill deep a h", "fill h a deep")
        self.is_refused(
            "NoName", "fill y a x", "fill x a y", "fill x A x", "fill x abcdefghi x", "fill X a x", "fill x a X", "fill x 1 x",
            "fill abcdefghi a x", "fill x a abcdefghi", "fill y a y", "fill 1 1 1", "fill t A t", "fill x a-b x", "fill x a 0",
        )
        self.is_refused(
            "NoRow", "fill", "fill ", "fill x", "fill x a", "fill x a ", "fill x  x", "fill  a x", "fill x a x ",
            "fill x a x x",
            " fill x a x", "fill x a x\n", "fill x\na x", "fill x a\nx", "fill x  a x", "fill x a  x", "Fill x a x", "fill X A",
        )


class Drop(DeskTest):
    def test_drop(self):
        self.does("let x a", "let y b", "drop x")
        self.answers("names", "y")
        self.is_refused("NoName", "line x", "drop x", "draw x", "put x 0 0 a", "fill x a y", "fill y b x")
        self.does("let x c")
        self.answers("line x", "c")
        self.does("drop x", "drop y")
        self.answers("names", "")

    def test_refused(self):
        self.does("let x a")
        self.is_refused("NoName", "drop y", "drop X", "drop abcdefghi", "drop 0", "drop x1", "drop -")
        self.is_refused("NoRow", "drop", "drop ", "drop x ", "drop x y", "drop  x", " drop x", "drop x\n", "drop\nx",
            "Drop x", "dropx")


class Questions(DeskTest):
    def test_names(self):
        self.answers("names", "")
        self.does("let b a")
        self.answers("names", "b")
        self.does("let aa a", "let c a", "let a a", "let ab a", "let z a", "let b c")
        self.answers("names", "a aa ab b c z")
        self.is_refused("NoRow", "names ", " names", "names x", "names\n", "\nnames", "Names", "name", "names  ")

    def test_line(self):
        for f in mixed(104, 30):
            self.does("let x " + written(f))
            self.answers("line x", written(f))
        self.is_refused("NoName", "line y", "line X", "line abcdefghi", "line 1")
        self.is_refused("NoRow", "line", "line ", "line x ", "line x y", "line  x", "line x\n", "line\nx", "line\n")

    def test_draw(self):
        self.does("let x " + EXAMPLE)
        self.answers("draw x", " 2       a\nx  + ---------\n      (b - 1)")
        self.does("let x x")
        self.answers("draw x", "x")
        for f in mixed(105, 20, 6, 60):
            self.does("let x " + written(f))
            self.answers("draw x", "\n".join(row.rstrip() for row in floor_rows(plan_of(f))))
        self.is_refused("NoName", "draw y", "draw X", "draw abcdefghi", "draw 1")
        self.is_refused("NoRow", "draw", "draw ", "draw x ", "draw x y", "draw  x", "draw x\n", "draw\nx")

    def test_size(self):
        self.does("let x " + EXAMPLE)
        self.answers("size x", "3 14 1")
        self.does("let x x")
        self.answers("size x", "1 1 0")
        self.does("let x V{abc}")
        self.answers("size x", "2 5 1")
        self.does("let x x_{ab}")
        self.answers("size x", "2 3 0")
        self.does("let x ({a/b})^{2}")
        self.answers("size x", "4 6 2")
        for f in mixed(106, 30):
            floor = both(plan_of(f))[1]
            self.does("let x " + written(f))
            self.answers("size x", " ".join([str(floor.up + 1 + floor.down), str(floor.wide), str(floor.up)]))
        self.is_refused("NoName", "size y", "size X", "size abcdefghi", "size 1")
        self.is_refused("NoRow", "size", "size ", "size x ", "size x y", "size  x", "size x\n", "size\nx")

    def test_point(self):
        self.does("let x " + EXAMPLE)
        for row, column, line in (
            (0, 0, "x^{2}"), (1, 0, "x"), (0, 1, "2"), (0, 2, EXAMPLE), (1, 3, EXAMPLE), (1, 5, "{a/(b - 1)}"), (0, 9, "a"),
            (2, 6, "(b - 1)"), (2, 7, "b"), (2, 9, "b - 1"), (2, 11, "1"), (2, 13, "{a/(b - 1)}"),
            (3, 0, "-"), (0, 14, "-"), (3, 14, "-"), (999999, 0, "-"), (0, 999999, "-"), (999999, 999999, "-"),
        ):
            self.answers("point x " + str(row) + " " + str(column), line)
        for f in mixed(107, 10, 5, 20):
            self.does("let x " + written(f))
            rows = drawn(f)
            for row in range(0, len(rows) + 1, 1 + len(rows) // 6):
                for column in range(0, len(rows[0]) + 2, 1 + len(rows[0]) // 6):
                    path = path_at(f, row, column)
                    line = "-" if path is None else written(part_of(f, path))
                    self.answers("point x " + str(row) + " " + str(column), line)

    def test_point_refused(self):
        self.does("let x a")
        self.is_refused("NoName", "point y 0 0", "point X 0 0", "point abcdefghi 0 0", "point 0 0 0", "point y 9 9")
        self.is_refused(
            "NoRow", "point", "point x", "point x 0", "point x 0 ", "point x 0 0 ", "point x 0 0 0", "point x a 0",
            "point x 0 a",
            "point x -1 0", "point x 0 -1", "point x 00 0", "point x 0 01", "point x 1000000 0", "point x 0 1000000",
            "point x  0 0",
            "point  0 0", "point x 0 0\n", "point x 0\n0", "point X 0", "point y 0 00", "point x 0  0", "point x 0 0 a",
        )

    def test_page(self):
        self.does("let x a = b = c")
        self.answers("page x 9", "a = b = c")
        self.answers("page x 999999", "a = b = c")
        self.answers("page x 8", "a = b\n\n= c")
        self.answers("page x 4", "a\n\n= b\n\n= c")
        self.is_refused("TooNarrow", "page x 2", "page x 1", "page x 0")
        self.does("let x {a/b} - c + {a/bcd}")
        self.answers("page x 7", " a\n--- - c\n b\n\n    a\n+ -----\n   bcd")
        self.does("let x (a = b)")
        self.answers("page x 7", "(a = b)")
        self.is_refused("TooNarrow", "page x 6", "page x 0")

    def test_pages_of_many(self):
        for f in mixed(108, 60, 4, 40):
            self.does("let x " + written(f))
            wide = both(plan_of(f))[1].wide
            for width in (wide, wide - 1, wide // 2, wide // 3):
                try:
                    page = page_of(f, width)
                except InkError:
                    self.is_refused("TooNarrow", "page x " + str(width))
                    continue
                told = self.desk.say("page x " + str(width))
                self.assertEqual(told, shown(page))
                self.assertEqual([row for row in told.split("\n") if row.endswith(" ")], [])

    def test_page_refused(self):
        self.does("let x a")
        self.is_refused("NoName", "page y 1", "page X 1", "page abcdefghi 0", "page y 0", "page 1 1")
        self.is_refused(
            "NoRow", "page", "page ", "page x", "page x ", "page x a", "page x 1 ", "page x 1 1", "page x -1", "page x 01",
            "page x 00",
            "page x 1000000", "page x +1", "page x 1.", "page x  1", "page  1", "page x 1\n", "page x\n1", "page y",
            "page X 01",
        )


class Rows(DeskTest):
    def test_numbers(self):
        self.does("let x a")
        for figures in ("0", "1", "9", "10", "99999", "100000", "999999"):
            line = "a" if figures == "0" else "-"
            self.answers("point x 0 " + figures, line)
            self.answers("point x " + figures + " 0", line)
        for figures in (
            "00", "01", "000000", "0000000", "000001", "1000000", "9999999", "12345678901", "1" * 300, "-0", "-1", "+0",
            "1e2", "0x1",
            "a", "1a", "a1", "1,000", "1_000", "1.0", "''", "(1)", "1\t", "\t1", "\u0661", "\u00b2", "\uff11",
        ):
            self.is_refused("NoRow", "point x 0 " + figures, "point x " + figures + " 0", "page x " + figures)
            self.is_refused("NoRow", "put x 0 " + figures + " b", "put x " + figures + " 0 b")

    def test_rows_that_are_none(self):
        self.does("let x a", "let names b")
        self.is_refused(
            "NoRow", "", " ", "  ", "\n", "\n\n", "x", "let", "let ", "let  ", "let x", "let  x", "let  x a", "let\nx a",
            "let x\na",
            "let x a\n", "let x a\nb", "let x \n", "\nlet x a", " let x a", "Let x a", "LET x a", "letx a", "let\n", "lets x a",
            "undo ", " undo", "undo x", "undo\n", "\nundo", "undo 1", "Undo", "undone", "redo", "help", "=", "let=x a",
            "names names",
            "lines x", "drawn x", "sizes x", "points x 0 0", "pages x 1", "quit", "a" * 4000, " " * 4000,
        )
        self.does("undo", "undo")
        self.is_refused("NoDeed", "undo")

    def test_no_row_comes_first(self):
        self.is_refused("NoRow", "let X", "let X\n", "let X a\n", "line X y", "size X ", "point X 0", "page X a", "fill X 1")
        self.is_refused("NoRow", "drop X y", "put X 0 a (", "put X 0 0", "scan X", "scan X Y\n", "undo X")
        self.is_refused("NoName", "let X ", "let X (", "let abcdefghi +", "let 1 ", "let x1 A", "let - a", "let xY a")

    def test_names_of_one_to_eight_small_letters(self):
        for word in ("a", "z", "ab", "abcdefgh", "zzzzzzzz"):
            self.does("let " + word + " a", "scan " + word + "\nb")
            self.answers("line " + word, "b")
        for word in ("A", "aB", "abcdefghi", "a" * 100, "1", "a1", "1a", "a_b", "_", "-", "a.", "\u00e4", "(a)", "*"):
            self.is_refused("NoName", "let " + word + " a", "scan " + word + "\na", "line " + word, "drop " + word)
            self.is_refused("NoName", "draw " + word, "size " + word, "point " + word + " 0 0", "page " + word + " 9")
            self.is_refused("NoName", "put " + word + " 0 0 a")
            self.is_refused("NoName", "fill " + word + " a a", "fill a " + word + " a", "fill a a " + word)

    def test_nothing_stands_there(self):
        self.is_refused("NoName", "line x", "draw x", "size x", "point x 0 0", "page x 0", "page x 9", "put x 0 0 a")
        self.is_refused("NoName", "put x 9 9 (", "drop x", "fill x a x", "fill x x x")
        self.answers("names", "")
        self.is_refused("NoDeed", "undo")


class Undo(DeskTest):
    def test_each_deed_is_taken_back(self):
        for deed in (
            "let x b", "let y b", "scan x\nb", "scan y\nb", "put x 0 0 b", "fill x a z", "drop x", "fill z c z", "let x a",
        ):
            self.desk = Desk()
            self.does("let x a + a", "let z 1")
            before = state(self.desk)
            self.does(deed, "undo")
            self.assertEqual(state(self.desk), before)
            self.does("undo")
            self.answers("names", "x")
            self.does("undo")
            self.answers("names", "")
            self.is_refused("NoDeed", "undo", "undo")

    def test_none_at_the_beginning(self):
        self.is_refused("NoDeed", "undo")
        self.does("let x a", "undo")
        self.is_refused("NoDeed", "undo")
        self.answers("names", "")

    def test_undo_is_no_deed(self):
        self.does("let x a", "let x b", "undo", "undo")
        self.is_refused("NoDeed", "undo")
        self.answers("names", "")

    def test_a_deed_behind_an_undo(self):
        self.does("let x a", "let x b", "undo", "let x c")
        self.answers("line x", "c")
        self.does("undo")
        self.answers("line x", "a")
        self.does("undo")
        self.answers("names", "")

    def test_deeds_behind_which_nothing_is_otherwise(self):
        self.does("let x a", "let x a", "scan x\na", "put x 0 0 a", "fill x a x", "fill x b x")
        for step in range(5):
            self.does("undo")
            self.answers("line x", "a")
        self.does("undo")
        self.answers("names", "")
        self.is_refused("NoDeed", "undo")

    def test_a_dropped_name_comes_back(self):
        self.does("let x a", "drop x", "let x b", "drop x", "undo")
        self.answers("line x", "b")
        self.does("undo")
        self.answers("names", "")
        self.does("undo")
        self.answers("line x", "a")

    def test_questions_and_refusals_are_no_deeds(self):
        self.does("let x a", "let x b")
        for row in ("names", "line x", "draw x", "size x", "point x 0 0", "page x 5"):
            self.desk.say(row)
        self.is_refused("NoLine", "let x (")
        self.is_refused("NoDrawing", "scan x\n(")
        self.is_refused("NoPart", "put x 1 1 a")
        self.is_refused("NoName", "drop y")
        self.is_refused("TooNarrow", "page x 0")
        self.is_refused("NoRow", "undo undo")
        self.does("undo")
        self.answers("line x", "a")

    def test_what_is_taken_back_by_name(self):
        self.does("let x a", "let y b", "put x 0 0 c", "put y 0 0 d", "undo")
        self.assertEqual(state(self.desk), {"x": "c", "y": "b"})
        self.does("undo")
        self.assertEqual(state(self.desk), {"x": "a", "y": "b"})

    def test_many(self):
        for n in range(400):
            self.desk.say("let x " + str(n))
        for n in range(399, -1, -1):
            self.assertEqual(self.desk.say("line x"), str(n))
            self.assertEqual(self.desk.say("undo"), "ok")
        self.is_refused("NoDeed", "undo")


class Sessions(DeskTest):
    LINES = ("a", "x", "a + b", "x^{2}", "{a/x}", "[a, x]", "(x = a)", "V{a * x}", "12", "(", "", "A", "a  ")

    def a_row(self, chance):
        names = "xyzX"
        row = chance.choice(("let", "let", "scan", "put", "fill", "drop", "undo", "undo", "line", "point", "page", "odd"))
        word = chance.choice(names)
        if row == "let":
            return "let " + word + " " + chance.choice(self.LINES)
        if row == "scan":
            return "scan " + word + "\n" + chance.choice(("a", "x + 1", " a\n---\n x", " 2\nx", "  _\nV|x", "", "a ", "( a)"))
        if row == "put":
            return " ".join(["put", word, str(chance.randint(0, 2)), str(chance.randint(0, 4)), chance.choice(self.LINES)])
        if row == "fill":
            return " ".join(["fill", word, chance.choice("axb"), chance.choice(names)])
        if row == "point":
            return " ".join(["point", word, str(chance.randint(0, 2)), str(chance.randint(0, 4))])
        if row == "page":
            return "page " + word + " " + str(chance.randint(0, 9))
        return row if row == "undo" else " ".join([row, word])

    def test_deeds_and_undo_in_many_orders(self):
        for seed in range(40):
            chance = random.Random(seed)
            self.desk = Desk()
            states = [state(self.desk)]
            for step in range(60):
                row = self.a_row(chance)
                try:
                    answer = self.desk.say(row)
                except InkError:
                    self.assertEqual(state(self.desk), states[-1], row)
                    if row == "undo":
                        self.assertEqual(len(states), 1)
                    continue
                if row == "undo":
                    states.pop()
                elif row.split()[0] in ("let", "scan", "put", "fill", "drop"):
                    self.assertEqual(answer, "ok")
                    after = state(self.desk)
                    word = row.split()[1]
                    self.assertEqual({k: v for k, v in after.items() if k != word},
                                     {k: v for k, v in states[-1].items() if k != word})
                    states.append(after)
                self.assertEqual(state(self.desk), states[-1], row)
            while len(states) > 1:
                self.does("undo")
                states.pop()
                self.assertEqual(state(self.desk), states[-1])
            self.is_refused("NoDeed", "undo")
            self.answers("names", "")


class TwoDesks(DeskTest):
    def test_they_know_nothing_of_each_other(self):
        other = Desk()
        self.does("let x a", "let y b")
        self.assertEqual(other.say("names"), "")
        self.refuses("NoName", other.say, "line x")
        self.refuses("NoDeed", other.say, "undo")
        self.assertEqual(other.say("let x c"), "ok")
        self.answers("line x", "a")
        self.does("drop x", "drop y")
        self.assertEqual(other.say("line x"), "c")
        self.does("undo", "undo", "undo", "undo")
        self.assertEqual(other.say("line x"), "c")
        self.assertEqual(other.say("undo"), "ok")
        self.assertEqual(Desk().say("names"), "")

    def test_nothing_is_kept_beside_the_desks(self):
        before = {word: repr(value) for word, value in vars(desk_module).items() if not word.startswith("__")}
        self.does("let x a", "put x 0 0 b", "undo", "drop x")
        after = {word: repr(value) for word, value in vars(desk_module).items() if not word.startswith("__")}
        self.assertEqual(before, after)


if __name__ == "__main__":
    unittest.main()
