import unittest

from inkform.sketches import Chain, Led, Over, Root, Sketch, Word
from tests.samples import PlanMaker, SketchTest, both, plan_count, plan_depth

KINDS = ("sketch", "word", "chain", "over", "root", "led")


class Plain(SketchTest):
    def test_rows(self):
        self.is_drawn(Sketch(3, 0, 0), 0, "   ")
        self.is_drawn(Sketch(2, 1, 2), 1, "  ", "  ", "  ", "  ")
        self.is_drawn(Sketch(1, 3, 0), 3, " ", " ", " ", " ")
        self.is_drawn(Sketch(60, 60, 60), 60, *[" " * 60] * 121)

    def test_no_columns(self):
        self.is_drawn(Sketch(0, 0, 0), 0, "")
        self.is_drawn(Sketch(0, 2, 1), 2, "", "", "", "")

    def test_no_spots(self):
        self.has_spots(Sketch(3, 1, 1))
        self.has_spots(Sketch(0, 0, 0))


class Words(SketchTest):
    def test_rows(self):
        self.is_drawn(Word("x"), 0, "x")
        self.is_drawn(Word("alpha"), 0, "alpha")
        self.is_drawn(Word("120"), 0, "120")
        self.is_drawn(Word("~!/\\|"), 0, "~!/\\|")
        self.is_drawn(Word("w" * 60), 0, "w" * 60)

    def test_no_spots(self):
        self.has_spots(Word("x"))


class Chains(SketchTest):
    def test_words(self):
        self.is_drawn(Chain([Word("a"), Word("bc")], "+"), 0, "a + bc")
        self.is_drawn(Chain([Word("a"), Word("bc"), Word("d")], "=*"), 0, "a = bc * d")
        self.is_drawn(Chain([Word("|")] * 5, "-+(<"), 0, "| - | + | ( | < |")

    def test_parts_that_differ_in_height(self):
        high = Over(Word("a"), Word("b"))
        higher = Over(high, Word("c"))
        deeper = Over(Word("d"), Over(Word("e"), Word("f")))
        self.is_drawn(Chain([Word("x"), high], "="), 1, "     a ", "x = ---", "     b ")
        self.is_drawn(
            Chain([higher, Word("y"), deeper], "-+"), 3,
            "  a              ",
            " ---             ",
            "  b           d  ",
            "----- - y + -----",
            "  c           e  ",
            "             --- ",
            "              f  ",
        )
        self.is_drawn(Chain([Sketch(1, 0, 2), Sketch(2, 1, 0)], "*"), 1, "      ", "  *   ", "      ", "      ")

    def test_no_columns(self):
        nothing = Sketch(0, 0, 0)
        self.is_drawn(Chain([nothing, nothing], "+"), 0, " + ")
        self.is_drawn(Chain([Word("a"), Sketch(0, 1, 0), Word("b")], "+-"), 1, "        ", "a +  - b")

    def test_spots(self):
        first, second, third = Word("abc"), Over(Word("a"), Word("b")), Sketch(0, 3, 3)
        last = Word("x")
        self.has_spots(Chain([first, second], "+"), (first, 0, 0), (second, 0, 6))
        self.has_spots(
            Chain([first, second, third, last], "+-*"),
            (first, 0, 0), (second, 0, 6), (third, 0, 12), (last, 0, 15),
        )
        self.has_spots(Chain([last, last, last], "=="), (last, 0, 0), (last, 0, 4), (last, 0, 8))

    def test_the_list_handed_in(self):
        first, second, third = Word("a"), Word("b"), Over(Word("c"), Word("d"))
        parts = [first, second]
        chain = Chain(parts, "+")
        self.assertEqual(len(parts), 2)
        self.assertIs(parts[0], first)
        self.assertIs(parts[1], second)
        chain.rows()
        chain.spots()
        self.assertEqual(parts, [first, second])
        parts[0] = third
        parts.append(third)
        self.is_drawn(chain, 0, "a + b")
        self.has_spots(chain, (first, 0, 0), (second, 0, 4))
        parts.clear()
        self.is_drawn(chain, 0, "a + b")
        self.has_spots(chain, (first, 0, 0), (second, 0, 4))


class Overs(SketchTest):
    def test_even_blanks(self):
        self.is_drawn(Over(Word("a"), Word("b")), 1, " a ", "---", " b ")
        self.is_drawn(Over(Word("a"), Word("bcd")), 1, "  a  ", "-----", " bcd ")
        self.is_drawn(Over(Word("abcde"), Word("f")), 1, " abcde ", "-------", "   f   ")

    def test_odd_blanks(self):
        self.is_drawn(Over(Word("a"), Word("bc")), 1, " a  ", "----", " bc ")
        self.is_drawn(Over(Word("abcd"), Word("e")), 1, " abcd ", "------", "  e   ")
        self.is_drawn(Over(Word("abcd"), Word("efg")), 1, " abcd ", "------", " efg  ")

    def test_higher_ones(self):
        high = Over(Word("abc"), Word("d"))
        self.is_drawn(
            Over(high, Word("e")), 3,
            "  abc  ",
            " ----- ",
            "   d   ",
            "-------",
            "   e   ",
        )
        self.is_drawn(
            Over(Word("ef"), high), 1,
            "  ef   ",
            "-------",
            "  abc  ",
            " ----- ",
            "   d   ",
        )
        self.is_drawn(
            Over(Root(Word("x")), Root(Over(Word("a"), Word("b")))), 2,
            "    _  ",
            "  V|x  ",
            "-------",
            "   ___ ",
            "  | a  ",
            " V|--- ",
            "  | b  ",
        )

    def test_no_columns(self):
        self.is_drawn(Over(Sketch(0, 0, 0), Sketch(0, 0, 0)), 1, "  ", "--", "  ")
        self.is_drawn(Over(Sketch(0, 1, 0), Word("a")), 2, "   ", "   ", "---", " a ")
        self.is_drawn(Over(Word("a"), Sketch(0, 0, 1)), 1, " a ", "---", "   ", "   ")

    def test_spots(self):
        word, wide = Word("a"), Word("bcde")
        self.has_spots(Over(word, wide), (word, -1, 2), (wide, 1, 1))
        self.has_spots(Over(wide, word), (wide, -1, 1), (word, 1, 2))
        self.has_spots(Over(word, word), (word, -1, 1), (word, 1, 1))
        tall, deep = Sketch(3, 4, 1), Sketch(6, 2, 5)
        self.has_spots(Over(tall, deep), (tall, -2, 2), (deep, 3, 1))
        self.has_spots(Over(deep, tall), (deep, -6, 1), (tall, 5, 2))


class Roots(SketchTest):
    def test_a_word(self):
        self.is_drawn(Root(Word("x")), 1, "  _", "V|x")
        self.is_drawn(Root(Word("abc")), 1, "  ___", "V|abc")

    def test_higher_ones(self):
        high = Over(Word("a"), Word("b"))
        self.is_drawn(Root(high), 2, "  ___", " | a ", "V|---", " | b ")
        self.is_drawn(
            Root(Root(Over(Over(Word("a"), Word("b")), Word("c")))), 5,
            "  _______",
            " |  _____",
            " | |  a  ",
            " | | --- ",
            " | |  b  ",
            "V|V|-----",
            " | |  c  ",
        )
        self.is_drawn(Root(Sketch(1, 0, 2)), 1, "  _", "V| ", " | ", " | ")

    def test_no_columns(self):
        self.is_drawn(Root(Sketch(0, 0, 0)), 1, "  ", "V|")
        self.is_drawn(Root(Sketch(0, 1, 1)), 2, "  ", " |", "V|", " |")

    def test_spots(self):
        for inner in (Word("abc"), Sketch(0, 3, 2), Over(Over(Word("a"), Word("b")), Word("c"))):
            self.has_spots(Root(inner), (inner, 0, 2))


class Leds(SketchTest):
    def test_a_word(self):
        self.is_drawn(Led("+", Word("x")), 0, "+ x")
        self.is_drawn(Led("=", Word("abc")), 0, "= abc")

    def test_higher_ones(self):
        self.is_drawn(Led("-", Over(Word("a"), Word("b"))), 1, "   a ", "- ---", "   b ")
        self.is_drawn(
            Led("*", Chain([Over(Over(Word("a"), Word("b")), Word("c")), Word("d")], "*")), 3,
            "    a      ",
            "   ---     ",
            "    b      ",
            "* ----- * d",
            "    c      ",
        )
        self.is_drawn(Led("=", Led("+", Root(Word("x")))), 1, "      _", "= + V|x")

    def test_no_columns(self):
        self.is_drawn(Led("+", Sketch(0, 0, 0)), 0, "+ ")
        self.is_drawn(Led("+", Sketch(0, 1, 2)), 1, "  ", "+ ", "  ", "  ")

    def test_spots(self):
        for inner in (Word("abc"), Sketch(0, 3, 2), Over(Over(Word("a"), Word("b")), Word("c"))):
            self.has_spots(Led("-", inner), (inner, 0, 2))


class Nests(SketchTest):
    def test_several_kinds(self):
        plan = ("led", "=", ("chain", [
            ("root", ("over", ("chain", [("word", "a"), ("word", "bc")], "+"), ("word", "d"))),
            ("over", ("root", ("word", "x")), ("chain", [("word", "y"), ("over", ("word", "1"), ("word", "22"))], "-")),
        ], "*"))
        sketch, floor = both(plan)
        self.is_like(sketch, floor)
        self.is_drawn(
            sketch, 2,
            "    ________        _    ",
            "   | a + bc       V|x    ",
            "= V|-------- * ----------",
            "   |   d             1   ",
            "                y - ---- ",
            "                     22  ",
        )

    def test_random_nests(self):
        maker = PlanMaker(7, KINDS)
        for step in range(300):
            sketch, floor = both(maker.make(2 + step % 4, 60))
            self.is_like(sketch, floor)

    def test_as_large_as_may_be(self):
        # 30 within one another: 29 wraps around a word; 300 in all.
        plan = ("word", "ab")
        count = 1
        for step in range(29):
            if step % 4 == 0:
                plan = ("over", plan, ("word", "x" * (step + 1)))
                count += 2
            elif step % 4 == 1:
                plan = ("root", plan)
                count += 1
            elif step % 4 == 2:
                # Behind the last chain of this loop come a led one and two of an over one.
                more = 36 if step < 26 else 300 - count - 4
                plan = ("chain", [plan] + [("word", "yz")] * more, "+" * more)
                count += 1 + more
            else:
                plan = ("led", "-", plan)
                count += 1
        self.assertEqual(plan_count(plan), 300)
        self.assertEqual(plan_depth(plan), 30)
        sketch, floor = both(plan)
        self.is_like(sketch, floor)

    def test_wide_and_high_ones(self):
        plan = ("sketch", 60, 60, 60)
        for step in range(28):
            plan = ("over", plan, ("sketch", 60, 60, 60)) if step % 2 else ("root", plan)
        sketch, floor = both(plan)
        self.assertEqual(sketch.rows(), [floor.row(k) for k in range(-floor.up, floor.down + 1)])

    def test_one_sketch_at_many_places(self):
        word = Word("a")
        over = Over(word, word)
        chain = Chain([over, word, over], "+-")
        self.is_drawn(chain, 1, " a         a ", "--- + a - ---", " a         a ")
        self.is_drawn(Over(chain, over), 3,
                      "  a         a  ", " --- + a - --- ", "  a         a  ", "---------------",
                      "       a       ", "      ---      ", "       a       ")


class ToldLists(SketchTest):
    def test_they_are_the_askers_own(self):
        word = Word("ab")
        over = Over(word, Word("c"))
        for sketch in (Sketch(2, 1, 1), word, Chain([word, over], "+"), over, Root(over), Led("-", over)):
            self.lists_are_the_askers_own(sketch)


if __name__ == "__main__":
    unittest.main()
