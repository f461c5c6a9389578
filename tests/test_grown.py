import unittest

from inkform.grown import Grid, Held, Marked
from inkform.sketches import Chain, Led, Over, Root, Sketch, Word
from tests.samples import MAKERS, PlanMaker, SketchTest, both, plan_count, plan_depth

HIGH = Over(Word("a"), Word("b"))

# Of each kind a plan around another, with 15 sketches more in all.
WRAPS = (
    lambda plan: ("marked", plan, ("word", "r"), ("sketch", 3, 1, 1)),
    lambda plan: ("held", plan),
    lambda plan: ("grid", [[("word", "x"), plan], [("sketch", 2, 1, 0), ("word", "yz")]]),
    lambda plan: ("over", ("word", "above"), plan),
    lambda plan: ("root", plan),
    lambda plan: ("chain", [("word", "p"), plan, ("sketch", 1, 0, 2)], "+-"),
    lambda plan: ("led", "=", plan),
)


class MarkedOnes(SketchTest):
    def test_raised_alone(self):
        self.is_drawn(Marked(Word("x"), Word("2"), None), 1, " 2", "x ")
        self.is_drawn(Marked(Word("abc"), Word("de"), None), 1, "   de", "abc  ")
        self.is_drawn(Marked(Word("x"), HIGH, None), 3, "  a ", " ---", "  b ", "x   ")

    def test_lowered_alone(self):
        self.is_drawn(Marked(Word("x"), None, Word("2")), 0, "x ", " 2")
        self.is_drawn(Marked(Word("abc"), None, Word("de")), 0, "abc  ", "   de")
        self.is_drawn(Marked(Word("x"), None, HIGH), 0, "x   ", "  a ", " ---", "  b ")

    def test_both(self):
        self.is_drawn(Marked(Word("x"), Word("2"), Word("i")), 1, " 2", "x ", " i")
        self.is_drawn(Marked(Word("x"), HIGH, Word("i")), 3, "  a ", " ---", "  b ", "x   ", " i  ")
        self.is_drawn(Marked(Word("x"), Word("i"), HIGH), 1, " i  ", "x   ", "  a ", " ---", "  b ")

    def test_either_one_the_wider(self):
        self.is_drawn(Marked(Word("x"), Word("abc"), Word("i")), 1, " abc", "x   ", " i  ")
        self.is_drawn(Marked(Word("x"), Word("i"), Word("abc")), 1, " i  ", "x   ", " abc")
        self.is_drawn(Marked(Word("x"), Word("ab"), Word("cd")), 1, " ab", "x  ", " cd")

    def test_over_an_item_of_several_rows(self):
        self.is_drawn(
            Marked(Held(HIGH), Word("2"), None), 2,
            "     2",
            "/ a \\ ",
            "(---) ",
            "\\ b / ",
        )
        self.is_drawn(
            Marked(Held(HIGH), None, Word("12")), 1,
            "/ a \\  ",
            "(---)  ",
            "\\ b /  ",
            "     12",
        )
        self.is_drawn(
            Marked(Held(Over(HIGH, Word("c"))), HIGH, Root(Word("d"))), 6,
            "        a ",
            "       ---",
            "        b ",
            "/  a  \\   ",
            "/ --- \\   ",
            "/  b  \\   ",
            "(-----)   ",
            "\\  c  /   ",
            "         _",
            "       V|d",
        )
        self.is_drawn(Marked(Sketch(2, 1, 2), Word("r"), Word("l")), 2, "  r", "   ", "   ", "   ", "   ", "  l")

    def test_marked_in_marked(self):
        inner = Marked(Word("i"), Word("j"), Word("k"))
        self.is_drawn(
            Marked(Held(inner), inner, inner), 4,
            "     j",
            "    i ",
            "     k",
            "/ j\\  ",
            "(i )  ",
            "\\ k/  ",
            "     j",
            "    i ",
            "     k",
        )

    def test_no_columns(self):
        nothing, high = Sketch(0, 0, 0), Sketch(0, 1, 2)
        self.is_drawn(Marked(nothing, nothing, nothing), 1, "", "", "")
        self.is_drawn(Marked(nothing, Word("a"), None), 1, "a", " ")
        self.is_drawn(Marked(Word("a"), high, None), 4, " ", " ", " ", " ", "a")
        self.is_drawn(Marked(Word("a"), None, high), 0, "a", " ", " ", " ", " ")
        self.is_drawn(Marked(high, Word("a"), Word("bc")), 2, "a ", "  ", "  ", "  ", "  ", "bc")

    def test_spots(self):
        item, raised, lowered = Sketch(4, 3, 2), Sketch(5, 1, 7), Sketch(6, 4, 8)
        self.has_spots(Marked(item, raised, None), (item, 0, 0), (raised, -11, 4))
        self.has_spots(Marked(item, None, lowered), (item, 0, 0), (lowered, 7, 4))
        self.has_spots(Marked(item, raised, lowered), (item, 0, 0), (raised, -11, 4), (lowered, 7, 4))
        word = Word("ab")
        self.has_spots(Marked(word, word, word), (word, 0, 0), (word, -1, 2), (word, 1, 2))
        nothing = Sketch(0, 2, 1)
        self.has_spots(Marked(nothing, word, nothing), (nothing, 0, 0), (word, -3, 0), (nothing, 4, 0))


class HeldOnes(SketchTest):
    def test_one_row(self):
        self.is_drawn(Held(Word("x")), 0, "(x)")
        self.is_drawn(Held(Chain([Word("a"), Word("bc")], "+")), 0, "(a + bc)")
        self.is_drawn(Held(Held(Word("x"))), 0, "((x))")

    def test_rows_above(self):
        self.is_drawn(Held(Root(Word("x"))), 1, "/  _\\", "(V|x)")
        self.is_drawn(Held(Sketch(1, 3, 0)), 3, "/ \\", "/ \\", "/ \\", "( )")

    def test_rows_beneath(self):
        self.is_drawn(Held(Marked(Word("x"), None, Word("i"))), 0, "(x )", "\\ i/")
        self.is_drawn(Held(Sketch(1, 0, 3)), 0, "( )", "\\ /", "\\ /", "\\ /")

    def test_rows_above_and_beneath(self):
        self.is_drawn(Held(HIGH), 1, "/ a \\", "(---)", "\\ b /")
        self.is_drawn(Held(Held(HIGH)), 1, "// a \\\\", "((---))", "\\\\ b //")
        self.is_drawn(
            Held(Over(HIGH, Word("c"))), 3,
            "/  a  \\",
            "/ --- \\",
            "/  b  \\",
            "(-----)",
            "\\  c  /",
        )
        self.is_drawn(
            Held(Over(Word("c"), HIGH)), 1,
            "/  c  \\",
            "(-----)",
            "\\  a  /",
            "\\ --- /",
            "\\  b  /",
        )

    def test_no_columns(self):
        self.is_drawn(Held(Sketch(0, 0, 0)), 0, "()")
        self.is_drawn(Held(Sketch(0, 2, 1)), 2, "/\\", "/\\", "()", "\\/")

    def test_spots(self):
        for inner in (Word("abc"), Sketch(0, 3, 2), Over(HIGH, Word("c"))):
            self.has_spots(Held(inner), (inner, 0, 1))


class Grids(SketchTest):
    def test_one_sketch(self):
        self.is_drawn(Grid([[Word("x")]]), 0, "[x]")
        # Of three rows the base row is the one amid, of four the second, of five the third.
        self.is_drawn(Grid([[HIGH]]), 1, "| a |", "[---]", "| b |")
        self.is_drawn(Grid([[Root(HIGH)]]), 1, "|  ___|", "[ | a ]", "|V|---|", "| | b |")
        self.is_drawn(Grid([[Over(HIGH, Word("c"))]]), 2, "|  a  |", "| --- |", "[  b  ]", "|-----|", "|  c  |")
        self.is_drawn(Grid([[Over(Word("c"), HIGH)]]), 2, "|  c  |", "|-----|", "[  a  ]", "| --- |", "|  b  |")
        # Of two rows it is the upper one, wherever the sketch has its own.
        self.is_drawn(Grid([[Root(Word("x"))]]), 0, "[  _]", "|V|x|")
        self.is_drawn(Grid([[Marked(Word("x"), None, Word("i"))]]), 0, "[x ]", "| i|")

    def test_one_band(self):
        self.is_drawn(Grid([[Word("a"), Word("bc")]]), 0, "[a  bc]")
        self.is_drawn(Grid([[Word("a"), Word("bc"), Word("d")]]), 0, "[a  bc  d]")
        self.is_drawn(
            Grid([[Word("x"), HIGH, Marked(Word("y"), Word("2"), None)]]), 1,
            "|    a    2|",
            "[x  ---  y ]",
            "|    b     |",
        )
        self.is_drawn(
            Grid([[Root(Word("x")), Marked(Word("y"), None, HIGH)]]), 2,
            "|  _      |",
            "|V|x  y   |",
            "[       a ]",
            "|      ---|",
            "|       b |",
        )

    def test_one_column(self):
        self.is_drawn(Grid([[Word("a")], [Word("b")]]), 1, "|a|", "[ ]", "|b|")
        self.is_drawn(Grid([[Word("a")], [Word("bcd")], [Word("ef")]]), 2, "|  a|", "|   |", "[bcd]", "|   |", "| ef|")
        self.is_drawn(
            Grid([[HIGH], [Word("c")], [Word("de")]]), 3,
            "| a |",
            "|---|",
            "| b |",
            "[   ]",
            "|  c|",
            "|   |",
            "| de|",
        )
        self.is_drawn(
            Grid([[Root(Word("x"))], [Word("y")]]), 1,
            "|  _|",
            "[V|x]",
            "|   |",
            "|  y|",
        )

    def test_sketches_that_differ(self):
        self.is_drawn(
            Grid([[Word("a"), HIGH], [Root(Word("xyz")), Marked(Word("i"), None, Word("jk"))]]), 3,
            "|        a |",
            "|    a  ---|",
            "|        b |",
            "[          ]",
            "|  ___     |",
            "|V|xyz  i  |",
            "|        jk|",
        )
        self.is_drawn(
            Grid([
                [Word("a"), Word("bb"), Word("c")],
                [Word("ddd"), Over(HIGH, Word("c")), Word("e")],
                [Word("f"), Word("g"), Held(Over(Word("h"), HIGH))],
            ]), 6,
            "|  a     bb        c|",
            "|                   |",
            "|       a           |",
            "|      ---          |",
            "|       b           |",
            "|ddd  -----        e|",
            "[       c           ]",
            "|                   |",
            "|            /  h  \\|",
            "|  f      g  (-----)|",
            "|            \\  a  /|",
            "|            \\ --- /|",
            "|            \\  b  /|",
        )

    def test_a_base_row_between_bands_or_in_one(self):
        rows = [[Word("a"), Word("b")]]
        for how_many in range(1, 8):
            grid = Grid(rows * how_many)
            high = 2 * how_many - 1
            self.assertEqual((grid.up, grid.down), ((high - 1) // 2, high - 1 - (high - 1) // 2))
            for n, row in enumerate(grid.rows()):
                edges = "[]" if n == (high - 1) // 2 else "||"
                self.assertEqual(row, edges[0] + ("    " if n % 2 else "a  b") + edges[1])

    def test_nine_by_nine(self):
        grid = Grid([[Word(str(10 * n + m)) for m in range(9)] for n in range(9)])
        rows = []
        for n in range(9):
            inner = "  ".join([str(10 * n + m).rjust(2) for m in range(9)])
            rows.append("[" + inner + "]" if n == 4 else "|" + inner + "|")
            rows.append("|" + " " * len(inner) + "|")
        rows.pop()
        self.is_drawn(grid, 8, *rows)

    def test_nine_by_nine_of_sketches_that_differ(self):
        plans = [[("sketch", (n * m) % 5, (n + m) % 4, (2 * n + m) % 3) for m in range(9)] for n in range(9)]
        self.is_like(*both(("grid", plans)))
        plans = [[("held", plan) if (n + m) % 2 else ("root", plan) for m, plan in enumerate(band)]
                 for n, band in enumerate(plans)]
        self.is_like(*both(("grid", plans)))

    def test_no_columns(self):
        nothing, high = Sketch(0, 0, 0), Sketch(0, 1, 2)
        self.is_drawn(Grid([[nothing]]), 0, "[]")
        self.is_drawn(Grid([[high]]), 1, "||", "[]", "||", "||")
        self.is_drawn(Grid([[nothing, nothing], [nothing, nothing]]), 1, "|  |", "[  ]", "|  |")
        self.is_drawn(Grid([[nothing, Word("ab")], [Word("c"), nothing]]), 1, "|   ab|", "[     ]", "|c    |")

    def test_spots(self):
        word, wide = Word("a"), Word("bcd")
        self.has_spots(Grid([[word]]), (word, 0, 1))
        self.has_spots(Grid([[word, wide, word]]), (word, 0, 1), (wide, 0, 4), (word, 0, 9))
        self.has_spots(Grid([[word], [wide]]), (word, -1, 3), (wide, 1, 1))
        tall, deep = Sketch(3, 4, 1), Sketch(6, 2, 5)
        # Bands of 10 (base row 4) and 8 (base row 2) rows, one between: 19 in all, the base row has 9 above it.
        self.has_spots(
            Grid([[tall, deep], [deep, word]]),
            (tall, -5, 4), (deep, -5, 9), (deep, 4, 1), (word, 4, 14),
        )
        # Eight rows alone: three above the base row, where the sketch has two.
        self.has_spots(Grid([[deep]]), (deep, -1, 1))
        # Six rows alone: two above the base row, where the sketch has four.
        self.has_spots(Grid([[tall]]), (tall, 2, 1))


class Nests(SketchTest):
    def test_several_kinds(self):
        grid = Grid([[Word("a"), Marked(Word("b"), Word("2"), None)]])
        whole = Chain([Word("y"), Marked(Held(Over(grid, Word("c"))), Word("n"), grid)], "=")
        self.is_drawn(
            Held(grid), 0,
            "([    2])",
            "\\|a  b |/",
        )
        self.is_drawn(
            whole, 3,
            "               n      ",
            "    / [    2] \\       ",
            "    / |a  b | \\       ",
            "y = (---------)       ",
            "    \\    c    /       ",
            "               [    2]",
            "               |a  b |",
        )
        self.is_drawn(Led("+", Root(grid)), 1, "    _______", "+ V|[    2]", "   ||a  b |")

    def test_grids_in_grids(self):
        inner = Grid([[Word("a")], [Word("b")]])
        self.is_drawn(
            Grid([[inner, Word("c")], [Word("d"), inner]]), 3,
            "||a|     |",
            "|[ ]    c|",
            "||b|     |",
            "[        ]",
            "|     |a||",
            "|  d  [ ]|",
            "|     |b||",
        )

    def test_random_nests(self):
        maker = PlanMaker(11, tuple(MAKERS) + ("marked", "held", "grid"))
        for step in range(400):
            self.is_like(*both(maker.make(2 + step % 5, 80)))

    def test_as_large_as_may_be(self):
        # Four times seven wraps around a word, then a grid of 14 by 17 with these, a held one and words: 300 in all.
        plan, word = ("word", "ab"), ("word", "xy")
        for step in range(4):
            for wrap in WRAPS:
                plan = wrap(plan)
        cells = [("held", word)] + [word] * 99 + [plan] + [word] * 137
        plan = ("grid", [cells[17 * n:17 * n + 17] for n in range(14)])
        self.assertEqual((plan_depth(plan), plan_count(plan)), (30, 300))
        self.is_like(*both(plan))

    def test_grids_within_one_another(self):
        plan = ("sketch", 2, 1, 0)
        for step in range(29):
            plan = ("grid", [[plan, ("word", "x")], [("sketch", step % 3, step % 2, 1), ("word", "yz")]])
        self.assertEqual(plan_depth(plan), 30)
        self.is_like(*both(plan))

    def test_wide_and_high_ones(self):
        large = ("sketch", 60, 60, 60)
        plan = large
        for step in range(29):
            plan = [("marked", plan, large, large), ("held", plan), ("grid", [[plan, large], [large, large]])][step % 3]
        sketch, floor = both(plan)
        self.assertEqual((sketch.wide, sketch.up, sketch.down), (floor.wide, floor.up, floor.down))
        self.assertEqual(sketch.rows(), [floor.row(k) for k in range(-floor.up, floor.down + 1)])

    def test_a_grid_of_many_high_bands(self):
        grid = Grid([[Sketch(60, 60, 60)]] * 299)
        high = 299 * 122 - 1
        rows = grid.rows()
        self.assertEqual(len(rows), high)
        self.assertEqual(grid.up, (high - 1) // 2)
        blanks = " " * 60
        self.assertEqual(rows.count("|" + blanks + "|"), high - 1)
        self.assertEqual(rows[grid.up], "[" + blanks + "]")

    def test_one_sketch_at_many_places(self):
        word = Word("a")
        marked = Marked(word, word, word)
        self.is_drawn(
            Grid([[marked, marked], [word, Held(marked)]]), 3,
            "| a     a|",
            "|a     a |",
            "| a     a|",
            "[        ]",
            "|    / a\\|",
            "| a  (a )|",
            "|    \\ a/|",
        )


class HandedIn(SketchTest):
    def test_the_lists_handed_to_a_grid(self):
        first, second, third, fourth = Word("a"), Word("b"), Word("c"), HIGH
        upper, lower = [first, second], [second, third]
        bands = [upper, lower]
        grid = Grid(bands)
        rows = ("|a  b|", "[    ]", "|b  c|")
        spots = ((first, -1, 1), (second, -1, 4), (second, 1, 1), (third, 1, 4))
        grid.rows()
        grid.spots()
        self.assertEqual(len(bands), 2)
        self.assertIs(bands[0], upper)
        self.assertIs(bands[1], lower)
        self.assertEqual((upper, lower), ([first, second], [second, third]))
        upper[0] = fourth
        upper.append(fourth)
        lower.clear()
        self.is_drawn(grid, 1, *rows)
        self.has_spots(grid, *spots)
        bands.append([fourth])
        bands[0] = [fourth]
        self.is_drawn(grid, 1, *rows)
        self.has_spots(grid, *spots)
        bands.clear()
        self.is_drawn(grid, 1, *rows)
        self.has_spots(grid, *spots)

    def test_one_list_as_several_bands(self):
        band = [Word("a"), Word("b")]
        grid = Grid([band, band])
        band.pop()
        self.is_drawn(grid, 1, "|a  b|", "[    ]", "|a  b|")

    def test_the_sketches_handed_in_stay(self):
        item, raised, lowered = Held(HIGH), Root(Word("r")), Word("low")
        before = [(each.wide, each.up, each.down, each.rows()) for each in (item, raised, lowered)]
        Marked(item, raised, lowered).rows()
        Held(item).rows()
        Grid([[item, raised], [lowered, item]]).rows()
        Grid([[item, raised], [lowered, item]]).spots()
        self.assertEqual([(each.wide, each.up, each.down, each.rows()) for each in (item, raised, lowered)], before)


class ToldLists(SketchTest):
    def test_they_are_the_askers_own(self):
        word = Word("ab")
        marked = Marked(word, HIGH, Word("c"))
        grid = Grid([[word, marked], [HIGH, word]])
        for sketch in (marked, Marked(word, None, HIGH), Held(marked), grid, Grid([[word]])):
            self.lists_are_the_askers_own(sketch)


if __name__ == "__main__":
    unittest.main()
