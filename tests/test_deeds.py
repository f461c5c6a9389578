import time
import unittest

from inkform.deeds import filled, put_in
from inkform.formulas import count_of, depth_of, is_formula
from inkform.lines import read_line, written
from tests.samples import (
    A, B, C, FAR, KINDS, LEVELS, ONE, TWO, X, InkTest, add, again, at_the_bounds, even, fitted, has_table, held, marked, mixed,
    name, nested_held, number, of_count, of_each_shape, over, parts, parts_by_path, placed, root, table, times,
)

OUTER = list(KINDS.values()) + [marked(A, B, None), marked(A, None, B), table((A, B), (C, X)), add("-+", A, B, C)]


def filled_again(f, word, g):
    """What filling makes, told without asking the program."""
    if f == name(word):
        return g
    return again(f, [fitted(f, n, g) if part == name(word) else filled_again(part, word, g) for n, part in enumerate(parts(f))])


class PutTest(InkTest):
    def is_put(self, f, path, g, after):
        made = put_in(f, path, g)
        self.assertEqual(repr(made), repr(after))
        self.assertTrue(is_formula(made))

    def is_none(self, f, path, g):
        with self.subTest(f=str(f)[:200], path=path, g=str(g)[:200]):
            self.refuses("NoFormula", put_in, f, path, g)

    def leads_nowhere(self, f, path, g):
        with self.subTest(f=str(f)[:200], path=path):
            self.refuses("NoPart", put_in, f, path, g)


class Put(PutTest):
    def test_the_empty_path(self):
        for f in OUTER + at_the_bounds():
            for g in KINDS.values():
                self.is_put(f, (), g, g)

    def test_each_level_into_each_place(self):
        some = {0: even(A, B), 1: add("-", A, B), 2: times(A, B), 3: over(A, B), 4: X}
        for level, g in some.items():
            inner = held(g)
            self.is_put(even(A, B), (0,), g, even(g if level >= 1 else inner, B))
            self.is_put(even(A, B), (1,), g, even(A, g if level >= 1 else inner))
            self.is_put(add("+-", A, B, C), (1,), g, add("+-", A, g if level >= 2 else inner, C))
            self.is_put(times(A, B), (1,), g, times(A, g if level >= 3 else inner))
            self.is_put(marked(A, B, C), (0,), g, marked(g if level >= 4 else inner, B, C))
            self.is_put(marked(A, B, C), (1,), g, marked(A, g, C))
            self.is_put(marked(A, B, C), (2,), g, marked(A, B, g))
            self.is_put(marked(A, None, C), (1,), g, marked(A, None, g))
            self.is_put(over(A, B), (0,), g, over(g, B))
            self.is_put(over(A, B), (1,), g, over(A, g))
            self.is_put(root(A), (0,), g, root(g))
            self.is_put(held(A), (0,), g, held(g))
            self.is_put(table((A, B), (C, X)), (2,), g, table((A, B), (g, X)))

    def test_each_kind_into_each_place(self):
        for f in OUTER:
            for n in range(len(parts(f))):
                for g in KINDS.values():
                    if f[0] == "table" and g[0] == "table":
                        self.is_none(f, (n,), g)
                    else:
                        self.is_put(f, (n,), g, placed(f, (n,), g))

    def test_the_kinds_that_are_put_as_they_are(self):
        for kind, g in KINDS.items():
            for f, least in ((even(A, B), 1), (add("-", A, B), 2), (times(A, B), 3)):
                made = put_in(f, (1,), g)
                self.assertEqual(parts(made)[1], g if LEVELS[kind] >= least else held(g))
            self.assertEqual(put_in(marked(A, B, None), (0,), g)[1], g if LEVELS[kind] == 4 else held(g))

    def test_held_ones_are_not_held_again(self):
        self.is_put(times(A, B), (0,), held(even(A, B)), times(held(even(A, B)), B))
        self.is_put(marked(A, B, None), (0,), held(over(A, B)), marked(held(over(A, B)), B, None))

    def test_at_any_depth(self):
        f = read_line("x^{2} + {a/(b - 1)}")
        self.is_put(f, (1, 1, 0, 0), even(A, C), read_line("x^{2} + {a/((a = c) - 1)}"))
        self.is_put(f, (1, 1, 0), even(A, C), read_line("x^{2} + {a/(a = c)}"))
        self.is_put(f, (1, 1), even(A, C), read_line("x^{2} + {a/a = c}"))
        self.is_put(f, (1,), even(A, C), read_line("x^{2} + (a = c)"))
        self.is_put(f, (0, 0), times(A, C), read_line("(a * c)^{2} + {a/(b - 1)}"))
        self.is_put(f, (0, 1), times(A, C), read_line("x^{a * c} + {a/(b - 1)}"))
        self.is_put(f, (0,), times(A, C), read_line("a * c + {a/(b - 1)}"))

    def test_into_every_part_of_many(self):
        for f in mixed(91, 40, 6, 40):
            for path, part in parts_by_path(f):
                self.is_put(f, path, part, f)
                for g in (even(A, B), root(A), number(0)):
                    made = placed(f, path, g)
                    if is_formula(made):
                        self.is_put(f, path, g, made)
                    else:
                        self.is_none(f, path, g)

    def test_the_place_of_the_old_part_is_what_asks(self):
        # The sum stands where it may; what comes into it asks for its own brackets alone.
        self.is_put(even(add("+", A, B), C), (0,), times(A, B), even(times(A, B), C))
        self.is_put(even(add("+", A, B), C), (0, 0), add("+", A, B), even(add("+", held(add("+", A, B)), B), C))

    def test_what_was_handed_in_stays(self):
        f, g, path = even(A, B), add("+", A, B), (0,)
        put_in(f, path, g)
        filled(f, "a", g)
        self.assertEqual((f, g, path), (even(A, B), add("+", A, B), (0,)))


class PutRefused(PutTest):
    def test_paths_that_lead_nowhere(self):
        for f in OUTER:
            for n in (-1, -2, -FAR, len(parts(f)), len(parts(f)) + 1, FAR):
                for g in KINDS.values():
                    self.leads_nowhere(f, (n,), g)
                    self.leads_nowhere(held(f), (0, n), g)
                self.leads_nowhere(f, (n, 0), A)
        self.leads_nowhere(X, (0,), A)
        self.leads_nowhere(TWO, (0, 0), A)
        self.leads_nowhere(marked(A, B, None), (2,), A)
        self.leads_nowhere(even(A, B), (0, 0), A)

    def test_no_part_comes_ahead_of_no_formula(self):
        self.leads_nowhere(nested_held(12), (0,) * 12, nested_held(12))
        self.leads_nowhere(of_count(300), (80,), of_count(300))
        self.leads_nowhere(table((A, B)), (2,), table((A,)))
        self.leads_nowhere(table((A, B)), (-1,), table((A,)))
        self.leads_nowhere(held(A), (1,), nested_held(12))
        self.leads_nowhere(even(A, B), (0, 0), nested_held(12))

    def test_depth(self):
        for f, path, levels in (
            (held(A), (0,), 1), (root(over(A, B)), (0, 1), 2), (even(A, B), (0,), 1), (marked(A, B, None), (1,), 1),
            (table((A, B)), (1,), 1), (nested_held(12), (0,) * 11, 11),
        ):
            deep = nested_held(12 - levels)
            self.is_put(f, path, deep, placed(f, path, deep))
            self.assertEqual(depth_of(put_in(f, path, deep)), 12)
            self.is_none(f, path, held(deep))
        # Brackets count, too.
        self.is_put(times(A, B), (0,), even(A, nested_held(9)), times(held(even(A, nested_held(9))), B))
        self.is_none(times(A, B), (0,), even(A, nested_held(10)))
        self.is_none(marked(A, B, None), (0,), root(nested_held(10)))
        self.is_put(marked(A, B, None), (0,), held(nested_held(10)), marked(nested_held(11), B, None))

    def test_count(self):
        self.assertEqual(count_of(put_in(even(A, B), (0,), add("+" * 79, *[A] * 80))), 83)
        long = of_count(298)
        self.is_put(over(A, B), (0,), long, over(long, B))
        self.assertEqual(count_of(put_in(over(A, B), (0,), long)), 300)
        self.is_none(over(A, B), (0,), of_count(299))
        # Brackets count, too.
        self.is_put(even(A, B), (1,), of_count(297), even(A, held(of_count(297))))
        self.is_none(even(A, B), (1,), of_count(298))
        self.is_put(of_count(300), (0, 0), A, placed(of_count(300), (0, 0), A))
        self.is_none(of_count(300), (0, 0), root(A))
        self.is_put(of_count(299), (0, 0), root(A), placed(of_count(299), (0, 0), root(A)))

    def test_a_table_in_a_table(self):
        inner = table((A,))
        for g in (inner, held(inner), root(over(inner, A)), even(A, inner), marked(inner, A, None), add("-", A, inner)):
            self.assertTrue(has_table(g))
            self.is_none(table((A, B)), (0,), g)
            self.is_none(table((A, root(B))), (1, 0), g)
            self.is_none(even(A, table((A, held(marked(B, C, None))))), (1, 1, 0, 1), g)
            self.is_put(table((A, B)), (), g, g)
            self.is_put(even(A, table((A, B))), (0,), g, placed(even(A, table((A, B))), (0,), g))
            self.is_put(even(A, table((A, B))), (1,), g, placed(even(A, table((A, B))), (1,), g))


class Fill(InkTest):
    def is_filled(self, f, word, g, after):
        made = filled(f, word, g)
        self.assertEqual(repr(made), repr(after))
        self.assertTrue(is_formula(made))

    def is_none(self, f, word, g):
        with self.subTest(f=str(f)[:200], word=word, g=str(g)[:200]):
            self.refuses("NoFormula", filled, f, word, g)

    def test_the_name_itself(self):
        for g in list(KINDS.values()) + at_the_bounds():
            self.is_filled(X, "x", g, g)

    def test_a_word_that_stands_once(self):
        for f in OUTER:
            for path, part in parts_by_path(f):
                with_word = placed(f, path, name("word"))
                for g in KINDS.values():
                    if f[0] == "table" and path != () and g[0] == "table":
                        self.is_none(with_word, "word", g)
                    else:
                        self.is_filled(with_word, "word", g, placed(f, path, g))

    def test_a_word_that_stands_often(self):
        g = add("+", A, B)
        self.is_filled(even(X, X, X), "x", g, even(g, g, g))
        self.is_filled(times(X, A, X), "x", g, times(held(g), A, held(g)))
        self.is_filled(marked(X, X, X), "x", g, marked(held(g), g, g))
        self.is_filled(read_line("x^{2} + {x/(x - 1)} = [x, V{x}]"), "x", g,
                       read_line("(a + b)^{2} + {a + b/((a + b) - 1)} = [a + b, V{a + b}]"))
        self.is_filled(even(*[X] * 80), "x", ONE, even(*[ONE] * 80))

    def test_a_word_that_stands_nowhere(self):
        for f in OUTER + mixed(92, 20) + at_the_bounds():
            for g in (A, even(A, B), table((A,)), nested_held(12), of_count(300)):
                self.is_filled(f, "nowhere", g, f)
        self.is_filled(name("ab"), "a", ONE, name("ab"))
        self.is_filled(name("a"), "ab", ONE, name("a"))
        self.is_filled(number(1), "a", TWO, number(1))

    def test_what_is_put_in_is_not_looked_through(self):
        self.is_filled(X, "x", even(X, A), even(X, A))
        self.is_filled(even(X, A), "x", add("+", X, X), even(add("+", X, X), A))
        self.is_filled(root(X), "x", root(X), root(root(X)))
        self.is_filled(times(X, X), "x", add("-", X, ONE), times(held(add("-", X, ONE)), held(add("-", X, ONE))))
        self.is_filled(even(X, X), "x", X, even(X, X))

    def test_brackets_where_the_place_asks_for_them(self):
        for kind, g in KINDS.items():
            self.is_filled(even(X, A), "x", g, even(held(g) if kind == "even" else g, A))
            self.is_filled(add("-", X, A), "x", g, add("-", held(g) if LEVELS[kind] < 2 else g, A))
            self.is_filled(times(A, X), "x", g, times(A, held(g) if LEVELS[kind] < 3 else g))
            self.is_filled(marked(X, A, X), "x", g, marked(held(g) if LEVELS[kind] < 4 else g, A, g))
            self.is_filled(held(X), "x", g, held(g))
            self.is_filled(over(X, X), "x", g, over(g, g))

    def test_many_formulas(self):
        for f in mixed(93, 150, 6, 30) + [f for count in range(1, 5) for f in of_each_shape(count)]:
            words = sorted({part[1] for path, part in parts_by_path(f) if part[0] == "name"})
            for word in words[:4]:
                for g in (ONE, times(A, X), even(A, marked(B, C, None))):
                    made = filled_again(f, word, g)
                    if is_formula(made):
                        self.is_filled(f, word, g, made)
                    else:
                        self.is_none(f, word, g)

    def test_what_comes_is_no_formula(self):
        self.is_none(table((X,)), "x", table((A,)))
        self.is_none(table((A, root(X))), "x", held(table((A,))))
        self.is_filled(table((X,)), "x", held(A), table((held(A),)))
        self.is_filled(held(X), "x", nested_held(11), nested_held(12))
        self.is_none(held(X), "x", nested_held(12))
        self.is_none(times(X, A), "x", even(A, nested_held(10)))
        self.is_filled(times(X, A), "x", even(A, nested_held(9)), times(held(even(A, nested_held(9))), A))
        self.is_filled(even(X, X), "x", add("+" * 79, *[A] * 80), even(*[add("+" * 79, *[A] * 80)] * 2))
        self.is_none(even(X, X, X, X), "x", add("+" * 79, *[A] * 80))
        # Just 300, then one more.
        tens = even(*[X] * 23 + [A] * 23)
        self.is_filled(tens, "x", add("+" * 10, *[A] * 11), filled_again(tens, "x", add("+" * 10, *[A] * 11)))
        self.assertEqual(count_of(filled(tens, "x", add("+" * 10, *[A] * 11))), 300)
        more = even(*[X] * 23 + [A] * 24)
        self.is_none(more, "x", add("+" * 10, *[A] * 11))

    def test_far_too_many_are_refused_in_a_short_time(self):
        begin = time.process_time()
        most = even(*[add("+" * 2, X, X, X)] * 74)
        self.assertTrue(is_formula(most))
        for g in (of_count(300), even(*[add("+", *[nested_held(3)] * 2)] * 40), nested_held(12)):
            self.is_none(most, "x", g)
        self.assertLess(time.process_time() - begin, 10)

    def test_lines_of_what_comes(self):
        self.assertEqual(written(filled(read_line("{a/b} * a"), "a", read_line("b - 1"))), "{b - 1/b} * (b - 1)")
        self.assertEqual(written(put_in(read_line("{a/b} * a"), (0, 1), read_line("b - 1"))), "{a/b - 1} * a")


if __name__ == "__main__":
    unittest.main()
