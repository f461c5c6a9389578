import copy
import random
import unittest

from inkform.sketches import Chain, Led, Over, Root, Sketch, Word

FAR = 10 ** 9


class Floor:
    """What a sketch must be, told sign by sign at places around the base row's begin."""

    def __init__(self, wide, up, down, spots):
        self.wide = wide
        self.up = up
        self.down = down
        self.signs = {}
        for floor, low, right in spots:
            for place, sign in floor.signs.items():
                self.signs[place[0] + low, place[1] + right] = sign

    def put(self, low, right, text):
        for step, sign in enumerate(text):
            self.signs[low, right + step] = sign

    def row(self, k):
        return "".join(self.signs.get((k, column), " ") for column in range(self.wide))


def both(plan):
    """The sketch and the floor of a plan: a tuple of a class's name and what it is made of."""
    return MAKERS[plan[0]](*plan[1:])


def both_sketch(wide, up, down):
    return Sketch(wide, up, down), Floor(wide, up, down, [])


def both_word(word):
    floor = Floor(len(word), 0, 0, [])
    floor.put(0, 0, word)
    return Word(word), floor


def both_chain(plans, signs):
    made = [both(plan) for plan in plans]
    spots, right = [], 0
    for sketch, floor in made:
        spots.append((floor, 0, right))
        right += floor.wide + 3
    whole = Floor(right - 3, max(floor.up for s, floor in made), max(floor.down for s, floor in made), spots)
    for sign, spot in zip(signs, spots[1:]):
        whole.put(0, spot[2] - 2, sign)
    return Chain([sketch for sketch, floor in made], signs), whole


def both_over(above_plan, beneath_plan):
    above, high = both(above_plan)
    beneath, deep = both(beneath_plan)
    wide = max(high.wide, deep.wide) + 2
    spots = [(high, -(high.down + 1), (wide - high.wide) // 2), (deep, deep.up + 1, (wide - deep.wide) // 2)]
    floor = Floor(wide, high.up + high.down + 1, deep.up + deep.down + 1, spots)
    floor.put(0, 0, "-" * wide)
    return Over(above, beneath), floor


def both_root(plan):
    inner, within = both(plan)
    floor = Floor(within.wide + 2, within.up + 1, within.down, [(within, 0, 2)])
    for k in range(-within.up, within.down + 1):
        floor.put(k, 1, "|")
    floor.put(0, 0, "V")
    floor.put(-within.up - 1, 2, "_" * within.wide)
    return Root(inner), floor


def both_led(sign, plan):
    inner, within = both(plan)
    floor = Floor(within.wide + 2, within.up, within.down, [(within, 0, 2)])
    floor.put(0, 0, sign)
    return Led(sign, inner), floor


MAKERS = {
    "sketch": both_sketch, "word": both_word, "chain": both_chain, "over": both_over, "root": both_root, "led": both_led,
}


def random_plan(chance, depth):
    kind = chance.choice(("sketch", "word", "chain", "over", "root", "led")) if depth > 1 else chance.choice(("sketch", "word"))
    if kind == "sketch":
        return ("sketch", chance.randint(0, 4), chance.randint(0, 3), chance.randint(0, 3))
    if kind == "word":
        return ("word", "".join(chance.choices("ab1|/\\()[]", k=chance.randint(1, 5))))
    if kind == "chain":
        how_many = chance.randint(2, 4)
        signs = "".join(chance.choices("=+-*<", k=how_many - 1))
        return ("chain", [random_plan(chance, depth - 1) for step in range(how_many)], signs)
    if kind == "over":
        return ("over", random_plan(chance, depth - 1), random_plan(chance, depth - 1))
    if kind == "root":
        return ("root", random_plan(chance, depth - 1))
    return ("led", chance.choice("=+-*"), random_plan(chance, depth - 1))


class SketchTest(unittest.TestCase):
    def is_drawn(self, sketch, up, *rows):
        """The sketch has these rows, so many of them above the base row."""
        rows = list(rows)
        down = len(rows) - 1 - up
        self.assertEqual((sketch.wide, sketch.up, sketch.down), (len(rows[0]), up, down))
        self.assertEqual(sketch.rows(), rows)
        self.assertIs(type(sketch.rows()), list)
        self.assertEqual([sketch.row(k) for k in range(-up, down + 1)], rows)
        for k in (-up - 1, down + 1, -up - 2, down + 2, -up - 100, down + 100, -FAR, FAR):
            self.assertEqual(sketch.row(k), " " * sketch.wide, k)
        self.assertIsInstance(sketch, Sketch)

    def has_spots(self, sketch, *spots):
        told = sketch.spots()
        self.assertIs(type(told), list)
        self.assertEqual(len(told), len(spots))
        for mine, spot in zip(told, spots):
            self.assertIs(type(mine), tuple)
            self.assertIs(mine[0], spot[0])
            self.assertEqual(mine[1:], spot[1:])


class Plain(SketchTest):
    def test_rows(self):
        self.is_drawn(Sketch(3, 0, 0), 0, "   ")
        self.is_drawn(Sketch(2, 1, 2), 1, "  ", "  ", "  ", "  ")
        self.is_drawn(Sketch(1, 3, 0), 3, " ", " ", " ", " ")
        self.is_drawn(Sketch(60, 60, 60), 60, *[" " * 60] * 121)

    def test_no_columns(self):
        self.is_drawn(Sketch(0, 0, 0), 0, "")
        self.is_drawn(Sketch(0, 2, 1), 2, "", "", "", "")

    def test_no_spots(self):
        self.has_spots(Sketch(3, 1, 1))
        self.has_spots(Sketch(0, 0, 0))


class Words(SketchTest):
    def test_rows(self):
        self.is_drawn(Word("x"), 0, "x")
        self.is_drawn(Word("alpha"), 0, "alpha")
        self.is_drawn(Word("120"), 0, "120")
        self.is_drawn(Word("~!/\\|"), 0, "~!/\\|")
        self.is_drawn(Word("w" * 60), 0, "w" * 60)

    def test_no_spots(self):
        self.has_spots(Word("x"))


class Chains(SketchTest):
    def test_words(self):
        self.is_drawn(Chain([Word("a"), Word("bc")], "+"), 0, "a + bc")
        self.is_drawn(Chain([Word("a"), Word("bc"), Word("d")], "=*"), 0, "a = bc * d")
        self.is_drawn(Chain([Word("|")] * 5, "-+(<"), 0, "| - | + | ( | < |")

    def test_parts_that_differ_in_height(self):
        high = Over(Word("a"), Word("b"))
        higher = Over(high, Word("c"))
        deeper = Over(Word("d"), Over(Word("e"), Word("f")))
        self.is_drawn(Chain([Word("x"), high], "="), 1, "     a ", "x = ---", "     b ")
        self.is_drawn(
            Chain([higher, Word("y"), deeper], "-+"), 3,
            "  a              ",
            " ---             ",
            "  b           d  ",
            "----- - y + -----",
            "  c           e  ",
            "             --- ",
            "              f  ",
        )
        self.is_drawn(Chain([Sketch(1, 0, 2), Sketch(2, 1, 0)], "*"), 1, "      ", "  *   ", "      ", "      ")

    def test_no_columns(self):
        nothing = Sketch(0, 0, 0)
        self.is_drawn(Chain([nothing, nothing], "+"), 0, " + ")
        self.is_drawn(Chain([Word("a"), Sketch(0, 1, 0), Word("b")], "+-"), 1, "        ", "a +  - b")

    def test_spots(self):
        first, second, third = Word("abc"), Over(Word("a"), Word("b")), Sketch(0, 3, 3)
        last = Word("x")
        self.has_spots(Chain([first, second], "+"), (first, 0, 0), (second, 0, 6))
        self.has_spots(
            Chain([first, second, third, last], "+-*"),
            (first, 0, 0), (second, 0, 6), (third, 0, 12), (last, 0, 15),
        )
        self.has_spots(Chain([last, last, last], "=="), (last, 0, 0), (last, 0, 4), (last, 0, 8))

    def test_the_list_handed_in(self):
        first, second, third = Word("a"), Word("b"), Over(Word("c"), Word("d"))
        parts = [first, second]
        chain = Chain(parts, "+")
        self.assertEqual(len(parts), 2)
        self.assertIs(parts[0], first)
        self.assertIs(parts[1], second)
        chain.rows()
        chain.spots()
        self.assertEqual(parts, [first, second])
        parts[0] = third
        parts.append(third)
        self.is_drawn(chain, 0, "a + b")
        self.has_spots(chain, (first, 0, 0), (second, 0, 4))
        parts.clear()
        self.is_drawn(chain, 0, "a + b")
        self.has_spots(chain, (first, 0, 0), (second, 0, 4))


class Overs(SketchTest):
    def test_even_blanks(self):
        self.is_drawn(Over(Word("a"), Word("b")), 1, " a ", "---", " b ")
        self.is_drawn(Over(Word("a"), Word("bcd")), 1, "  a  ", "-----", " bcd ")
        self.is_drawn(Over(Word("abcde"), Word("f")), 1, " abcde ", "-------", "   f   ")

    def test_odd_blanks(self):
        self.is_drawn(Over(Word("a"), Word("bc")), 1, " a  ", "----", " bc ")
        self.is_drawn(Over(Word("abcd"), Word("e")), 1, " abcd ", "------", "  e   ")
        self.is_drawn(Over(Word("abcd"), Word("efg")), 1, " abcd ", "------", " efg  ")

    def test_higher_ones(self):
        high = Over(Word("abc"), Word("d"))
        self.is_drawn(
            Over(high, Word("e")), 3,
            "  abc  ",
            " ----- ",
            "   d   ",
            "-------",
            "   e   ",
        )
        self.is_drawn(
            Over(Word("ef"), high), 1,
            "  ef   ",
            "-------",
            "  abc  ",
            " ----- ",
            "   d   ",
        )
        self.is_drawn(
            Over(Root(Word("x")), Root(Over(Word("a"), Word("b")))), 2,
            "    _  ",
            "  V|x  ",
            "-------",
            "   ___ ",
            "  | a  ",
            " V|--- ",
            "  | b  ",
        )

    def test_no_columns(self):
        self.is_drawn(Over(Sketch(0, 0, 0), Sketch(0, 0, 0)), 1, "  ", "--", "  ")
        self.is_drawn(Over(Sketch(0, 1, 0), Word("a")), 2, "   ", "   ", "---", " a ")
        self.is_drawn(Over(Word("a"), Sketch(0, 0, 1)), 1, " a ", "---", "   ", "   ")

    def test_spots(self):
        word, wide = Word("a"), Word("bcde")
        self.has_spots(Over(word, wide), (word, -1, 2), (wide, 1, 1))
        self.has_spots(Over(wide, word), (wide, -1, 1), (word, 1, 2))
        self.has_spots(Over(word, word), (word, -1, 1), (word, 1, 1))
        tall, deep = Sketch(3, 4, 1), Sketch(6, 2, 5)
        self.has_spots(Over(tall, deep), (tall, -2, 2), (deep, 3, 1))
        self.has_spots(Over(deep, tall), (deep, -6, 1), (tall, 5, 2))


class Roots(SketchTest):
    def test_a_word(self):
        self.is_drawn(Root(Word("x")), 1, "  _", "V|x")
        self.is_drawn(Root(Word("abc")), 1, "  ___", "V|abc")

    def test_higher_ones(self):
        high = Over(Word("a"), Word("b"))
        self.is_drawn(Root(high), 2, "  ___", " | a ", "V|---", " | b ")
        self.is_drawn(
            Root(Root(Over(Over(Word("a"), Word("b")), Word("c")))), 5,
            "  _______",
            " |  _____",
            " | |  a  ",
            " | | --- ",
            " | |  b  ",
            "V|V|-----",
            " | |  c  ",
        )
        self.is_drawn(Root(Sketch(1, 0, 2)), 1, "  _", "V| ", " | ", " | ")

    def test_no_columns(self):
        self.is_drawn(Root(Sketch(0, 0, 0)), 1, "  ", "V|")
        self.is_drawn(Root(Sketch(0, 1, 1)), 2, "  ", " |", "V|", " |")

    def test_spots(self):
        for inner in (Word("abc"), Sketch(0, 3, 2), Over(Over(Word("a"), Word("b")), Word("c"))):
            self.has_spots(Root(inner), (inner, 0, 2))


class Leds(SketchTest):
    def test_a_word(self):
        self.is_drawn(Led("+", Word("x")), 0, "+ x")
        self.is_drawn(Led("=", Word("abc")), 0, "= abc")

    def test_higher_ones(self):
        self.is_drawn(Led("-", Over(Word("a"), Word("b"))), 1, "   a ", "- ---", "   b ")
        self.is_drawn(
            Led("*", Chain([Over(Over(Word("a"), Word("b")), Word("c")), Word("d")], "*")), 3,
            "    a      ",
            "   ---     ",
            "    b      ",
            "* ----- * d",
            "    c      ",
        )
        self.is_drawn(Led("=", Led("+", Root(Word("x")))), 1, "      _", "= + V|x")

    def test_no_columns(self):
        self.is_drawn(Led("+", Sketch(0, 0, 0)), 0, "+ ")
        self.is_drawn(Led("+", Sketch(0, 1, 2)), 1, "  ", "+ ", "  ", "  ")

    def test_spots(self):
        for inner in (Word("abc"), Sketch(0, 3, 2), Over(Over(Word("a"), Word("b")), Word("c"))):
            self.has_spots(Led("-", inner), (inner, 0, 2))


class Nests(SketchTest):
    def is_like(self, sketch, floor):
        self.assertEqual((sketch.wide, sketch.up, sketch.down), (floor.wide, floor.up, floor.down))
        self.assertEqual(sketch.rows(), [floor.row(k) for k in range(-floor.up, floor.down + 1)])
        for k in range(-floor.up - 3, floor.down + 4):
            self.assertEqual(sketch.row(k), floor.row(k))
        for k in (-FAR, FAR):
            self.assertEqual(sketch.row(k), " " * floor.wide)
        self.is_spotted(sketch)

    def is_spotted(self, sketch):
        """Each sketch stands, sign by sign, where its spot tells."""
        for inner, low, right in sketch.spots():
            for k in range(-inner.up, inner.down + 1):
                self.assertEqual(sketch.row(low + k)[right:right + inner.wide], inner.row(k))
            self.is_spotted(inner)

    def test_several_kinds(self):
        plan = ("led", "=", ("chain", [
            ("root", ("over", ("chain", [("word", "a"), ("word", "bc")], "+"), ("word", "d"))),
            ("over", ("root", ("word", "x")), ("chain", [("word", "y"), ("over", ("word", "1"), ("word", "22"))], "-")),
        ], "*"))
        sketch, floor = both(plan)
        self.is_like(sketch, floor)
        self.is_drawn(
            sketch, 2,
            "    ________        _    ",
            "   | a + bc       V|x    ",
            "= V|-------- * ----------",
            "   |   d             1   ",
            "                y - ---- ",
            "                     22  ",
        )

    def test_random_nests(self):
        chance = random.Random(7)
        for step in range(300):
            sketch, floor = both(random_plan(chance, chance.randint(2, 5)))
            self.is_like(sketch, floor)

    def test_as_large_as_may_be(self):
        # 30 within one another: 29 wraps around a word; 300 in all.
        plan = ("word", "ab")
        count = 1
        for step in range(29):
            if step % 4 == 0:
                plan = ("over", plan, ("word", "x" * (step + 1)))
                count += 2
            elif step % 4 == 1:
                plan = ("root", plan)
                count += 1
            elif step % 4 == 2:
                # Behind the last chain of this loop come a led one and two of an over one.
                more = 36 if step < 26 else 300 - count - 4
                plan = ("chain", [plan] + [("word", "yz")] * more, "+" * more)
                count += 1 + more
            else:
                plan = ("led", "-", plan)
                count += 1
        self.assertEqual(plan_count(plan), 300)
        self.assertEqual(plan_depth(plan), 30)
        sketch, floor = both(plan)
        self.is_like(sketch, floor)

    def test_wide_and_high_ones(self):
        plan = ("sketch", 60, 60, 60)
        for step in range(28):
            plan = ("over", plan, ("sketch", 60, 60, 60)) if step % 2 else ("root", plan)
        sketch, floor = both(plan)
        self.assertEqual(sketch.rows(), [floor.row(k) for k in range(-floor.up, floor.down + 1)])

    def test_one_sketch_at_many_places(self):
        word = Word("a")
        over = Over(word, word)
        chain = Chain([over, word, over], "+-")
        self.is_drawn(chain, 1, " a         a ", "--- + a - ---", " a         a ")
        self.is_drawn(Over(chain, over), 3,
                      "  a         a  ", " --- + a - --- ", "  a         a  ", "---------------",
                      "       a       ", "      ---      ", "       a       ")


def plan_count(plan):
    return 1 + sum(plan_count(inner) for inner in inner_plans(plan))


def plan_depth(plan):
    return 1 + max([plan_depth(inner) for inner in inner_plans(plan)], default=0)


def inner_plans(plan):
    found = []
    for value in plan[1:]:
        if isinstance(value, tuple):
            found.append(value)
        elif isinstance(value, list):
            found += value
    return found


class ToldLists(SketchTest):
    def some(self):
        word = Word("ab")
        over = Over(word, Word("c"))
        return (Sketch(2, 1, 1), word, Chain([word, over], "+"), over, Root(over), Led("-", over))

    def test_what_is_done_to_rows_changes_nothing(self):
        for sketch in self.some():
            first = sketch.rows()
            kept = copy.copy(first)
            self.assertIsNot(first, sketch.rows())
            first[0] = "?"
            first.append("!")
            self.assertEqual(sketch.rows(), kept)
            self.assertEqual(sketch.row(-sketch.up), kept[0])

    def test_what_is_done_to_spots_changes_nothing(self):
        for sketch in self.some():
            first = sketch.spots()
            kept = copy.copy(first)
            rows = sketch.rows()
            self.assertIsNot(first, sketch.spots())
            first.clear()
            first.append((Word("z"), 5, 5))
            self.has_spots(sketch, *kept)
            self.assertEqual(sketch.rows(), rows)

    def test_asking_changes_nothing_told_before(self):
        for sketch in self.some():
            rows, spots = sketch.rows(), sketch.spots()
            kept_rows, kept_spots = list(rows), list(spots)
            for k in range(-3, 4):
                sketch.row(k)
            sketch.rows().clear()
            sketch.spots().clear()
            Over(sketch, sketch).rows()
            self.assertEqual(rows, kept_rows)
            self.assertEqual(spots, kept_spots)


if __name__ == "__main__":
    unittest.main()
