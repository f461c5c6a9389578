import copy
import random
import unittest

from inkform.formulas import (
    count_of, depth_of, grouped, is_formula, least_level, level_of, parts_of, rebuilt, signs_of,
)
from inkform.lines import read_line, written
from tests.samples import (
    A, B, C, KINDS, LEVELS, ONE, TWO, X,
    add, even, held, marked, mixed, name, nested_held, number, of_count, over, root, table, times,
)

ROWS = {"even": even, "sum": lambda *parts: add("+" * (len(parts) - 1), *parts), "times": times}


class IsFormula(unittest.TestCase):
    def tells(self, truth, *things):
        for thing in things:
            with self.subTest(thing=repr(thing)[:200]):
                kept = copy.deepcopy(thing)
                self.assertIs(is_formula(thing), truth)
                self.assertEqual(thing, kept)

    def test_one_of_each_kind(self):
        self.tells(True, *KINDS.values())

    def test_names(self):
        self.tells(True, name("a"), name("z"), name("abcdefgh"), name("qrstuvwx"), name("yzijklmn"), name("op"))
        self.tells(False, name(""), name("abcdefghi"), name("a" * 60))
        for sign in map(chr, list(range(32, 97)) + list(range(123, 127)) + [10, 13]):
            self.tells(False, name(sign), name("a" + sign), name(sign + "a"), name("a" + sign + "b"))

    def test_names_of_other_things(self):
        self.tells(False, name(1), name(None), name(True), name(("a",)), name(["a"]), name(()), name(A))

    def test_numbers(self):
        self.tells(True, number(0), number(1), number(10), number(999999999))
        self.tells(False, number(1000000000), number(-1), number(10 ** 30), number(-10 ** 30))
        self.tells(False, number(True), number(False), number(None), number("1"), number(""), number((1,)), number([1]))

    def test_how_many_parts(self):
        for row in ROWS.values():
            self.tells(True, row(A, B), row(A, B, C), row(*[A] * 79), row(*[A] * 80))
            self.tells(False, row(A), row(*[A] * 81), row(*[A] * 200))
        self.tells(False, even(), times(), ("sum", (), ""))

    def test_lists_in_the_place_of_tuples(self):
        self.tells(False, ["name", "a"], ["number", 1], ("even", [A, B]), ("sum", [A, B], "+"), ("times", [A, B]))
        self.tells(False, ["even", (A, B)], ["over", A, B], ["root", A], ["held", A], ["marked", A, B, C])
        self.tells(False, ("even", (["name", "a"], B)), ("over", ["name", "a"], B), ("over", A, ["name", "b"]))
        self.tells(False, ("root", ["name", "a"]), ("held", ["name", "a"]), ("marked", ["name", "a"], B, C))
        self.tells(False, ("marked", A, ["name", "b"], C), ("marked", A, B, ["name", "c"]))
        self.tells(False, ["table", ((A,),)], ("table", [(A,)]), ("table", ([A],)), ("table", ((A,), [B])))
        self.tells(False, ("table", ((["name", "a"],),)))

    def test_signs_of_a_sum(self):
        self.tells(True, add("+", A, B), add("-", A, B), add("+-", A, B, C), add("-+", A, B, C), add("--", A, B, C))
        self.tells(False, add("", A, B), add("++", A, B), add("+", A, B, C), add("+++", A, B, C))
        for sign in [chr(code) for code in range(32, 127) if chr(code) not in "+-"] + ["\n"]:
            self.tells(False, add(sign, A, B), add("+" + sign, A, B, C), add(sign + "-", A, B, C))
        self.tells(False, add(None, A, B), add(1, A, B), add(("+",), A, B), add(["+"], A, B), add(True, A, B))

    def test_levels_of_parts_in_rows(self):
        for kind, row in ROWS.items():
            for other, part in KINDS.items():
                truth = LEVELS[other] > LEVELS[kind]
                self.tells(truth, row(part, A), row(A, part), row(A, part, A))

    def test_levels_of_parts_elsewhere(self):
        for other, part in KINDS.items():
            self.tells(True, over(part, A), over(A, part), root(part), held(part))
            self.tells(True, marked(A, part, None), marked(A, None, part), marked(A, part, part))
            self.tells(other != "table", table((part, A)), table((A,), (part,)))
            self.tells(LEVELS[other] == 4, marked(part, A, None), marked(part, None, A), marked(part, A, A))

    def test_marks(self):
        self.tells(True, marked(A, B, C), marked(A, B, None), marked(A, None, C))
        self.tells(False, marked(A, None, None), marked(None, B, C), marked(None, None, C), marked(None, B, None))
        self.tells(False, marked(A, False, B), marked(A, B, ()), marked(A, "", B), marked(A, 0, B), marked(A, (), ()))

    def test_none_is_a_part_nowhere_else(self):
        self.tells(False, root(None), held(None), over(None, A), over(A, None), even(A, None), times(None, A))
        self.tells(False, add("+", None, A), table((None,)), table((A, None)))

    def test_values_missing_or_too_many(self):
        for thing in KINDS.values():
            for end in range(len(thing)):
                self.tells(False, thing[:end])
            self.tells(False, thing + (A,), thing + (None,), thing + ("",), thing + ((),))
        self.tells(False, ("even", (A, B), "="), ("times", (A, B), "*"), ("sum", (A, B)))

    def test_other_kinds(self):
        self.tells(False, ("", A), ("Name", "a"), ("names", "a"), ("name\n", "a"), (" name", "a"), ("word", "a"))
        self.tells(False, (None, "a"), (1, "a"), (True, "a"), ([], "a"), ((), "a"), (["name"], "a"), (("name",), "a"))
        for kind in KINDS:
            self.tells(False, kind, (kind,), [kind], (kind, None), (kind, ()), (kind, []), (kind, True), (kind, ""))

    def test_things_that_are_no_tuples(self):
        self.tells(False, None, True, False, 0, 1, -5, 10 ** 12, "", "a", "name", "a\nb", "\n", (), [], [A], [[]], ((),))

    def test_bands(self):
        for high in range(0, 12):
            for wide in range(0, 12):
                self.tells(1 <= high <= 9 and 1 <= wide <= 9, table(*[(A,) * wide] * high))
        self.tells(False, table((A,), (A, B)), table((A, B), (A,)), table((A, B), (A, B), (A, B, C)))
        self.tells(False, table((A,), ()), table((), (A,)), ("table", A), ("table", (A, B)), ("table", None))
        self.tells(False, ("table", "ab"), ("table", ("ab",)), ("table", (None,)), ("table", 3))

    def test_no_table_in_a_table_at_any_depth(self):
        inner = table((A,))
        self.tells(True, inner)
        for step in range(9):
            self.tells(True, inner)
            self.tells(False, table((inner,)), table((A, B), (C, inner)), held(table((inner,))))
            wrap = (held, root, lambda f: over(A, f), lambda f: marked(A, None, f), lambda f: times(A, held(f)))[step % 5]
            inner = wrap(inner)
        self.tells(True, times(table((A,)), table((B,))), marked(table((A,)), table((B,)), table((C,))))

    def test_depth(self):
        self.tells(True, nested_held(11), nested_held(12))
        self.tells(False, nested_held(13), nested_held(14), over(A, nested_held(12)), times(nested_held(12), A))
        self.tells(True, over(A, nested_held(11)), marked(A, None, nested_held(11)), table((A, nested_held(11))))
        self.tells(False, marked(A, None, nested_held(12)), table((A, nested_held(12))), root(nested_held(12)))

    def test_count(self):
        for count in (299, 300, 301, 302):
            f = of_count(count)
            self.assertEqual(len([None for step in walked(f)]), count)
            self.tells(count <= 300, f)
        self.tells(True, held(of_count(299)), over(of_count(298), A))
        self.tells(False, held(of_count(300)), over(of_count(299), A), over(A, of_count(299)))

    def test_as_much_as_may_be_asked(self):
        deep_list, deep_tuple, deep_held, deep_table = [], (), A, A
        for step in range(29):
            deep_list, deep_tuple = [deep_list], (deep_tuple,)
        for step in range(14):
            deep_held = held(deep_held)
            deep_table = table((deep_table,))
        self.tells(False, deep_list, deep_tuple, deep_held, deep_table, ("even", deep_tuple), ("table", deep_tuple))
        self.tells(False, [A] * 600, (A,) * 600, ("even", (A,) * 600), ("table", ((A,) * 600,)), ["name"] * 1999)
        self.tells(False, even(*[even(A, B)] * 80), even(*[times(*[A] * 7)] * 80), "a" * 4000, name("a" * 4000))

    def test_mixed(self):
        for f in mixed(4, 200):
            self.tells(True, f)

    def test_mixed_with_something_else_in_them(self):
        chance = random.Random(8)
        others = (None, True, False, 0, -1, 1, "", "a", "A", "+", "-", "\n", "name", (), [], (None,), [A], (A,), (A, B), A,
                  TWO, even(A, B), add("-", A, B), table((A,)), ("name", "a", "b"), ("root",), ((A, B), (A,)), ["held", A])
        for f in mixed(9, 600, 5, 30):
            thing = exchanged(f, chance, chance.choice(others))
            truth = is_formula(thing)
            self.assertIn(truth, (True, False))
            self.assertIs(type(truth), bool)
            if truth:
                self.assertEqual(read_line(written(thing)), thing)


def exchanged(thing, chance, other):
    """The thing with another one in the place of some value in it."""
    if not isinstance(thing, tuple) or chance.random() < 0.15:
        return other
    place = chance.randrange(len(thing))
    return thing[:place] + (exchanged(thing[place], chance, other),) + thing[place + 1:]


def walked(f):
    """The formula and all its parts, told without the program."""
    found = [f]
    for value in f[1:]:
        if isinstance(value, tuple) and value and isinstance(value[0], str):
            found += walked(value)
        elif isinstance(value, tuple):
            for inner in value:
                some = (inner,) if isinstance(inner[0], str) else inner
                for part in some:
                    found += walked(part)
    return found


class Parts(unittest.TestCase):
    def test_levels(self):
        for kind, f in KINDS.items():
            self.assertEqual(level_of(f), LEVELS[kind], kind)

    def test_parts_of_each_kind(self):
        cases = (
            (X, []), (TWO, []), (number(0), []),
            (even(A, B, A), [A, B, A]), (add("+-", C, B, A), [C, B, A]), (times(B, A), [B, A]),
            (over(B, A), [B, A]), (root(held(B)), [held(B)]), (held(over(A, B)), [over(A, B)]),
            (marked(C, B, A), [C, B, A]), (marked(C, B, None), [C, B]), (marked(C, None, A), [C, A]),
            (table((A, B), (C, X)), [A, B, C, X]), (table((A,), (B,), (C,)), [A, B, C]), (table((C, B, A)), [C, B, A]),
        )
        for f, parts in cases:
            with self.subTest(f=f):
                self.assertEqual(parts_of(f), parts)
                self.assertIs(type(parts_of(f)), list)

    def test_parts_told_twice_are_two_lists(self):
        for f in KINDS.values():
            first = parts_of(f)
            second = parts_of(f)
            self.assertIsNot(first, second)
            first.append(X)
            self.assertEqual(parts_of(f), second)

    def test_depth_of_each_kind(self):
        self.assertEqual(depth_of(X), 1)
        self.assertEqual(depth_of(number(999999999)), 1)
        for kind, f in KINDS.items():
            if kind not in ("name", "number"):
                self.assertEqual(depth_of(f), 2, kind)
        deep = held(held(A))
        for f in (even(A, deep), even(deep, A), add("+", A, deep, ), times(A, B, deep, A), over(deep, A), over(A, deep),
                  root(deep), held(deep), marked(deep, A, A), marked(A, deep, None), marked(A, None, deep),
                  marked(A, B, deep), table((A, B), (A, deep)), table((deep, A), (A, B))):
            self.assertEqual(depth_of(f), 4, f)

    def test_depth_at_and_beyond_the_bound(self):
        for depth in (11, 12, 13, 14):
            self.assertEqual(depth_of(nested_held(depth)), depth)

    def test_count_of_each_kind(self):
        cases = (
            (X, 1), (TWO, 1), (even(A, B, C), 4), (add("+", A, B), 3), (times(A, B), 3), (over(A, A), 3), (root(A), 2),
            (held(A), 2), (marked(A, B, C), 4), (marked(A, B, None), 3), (marked(A, None, B), 3),
            (table((A, B), (C, X), (A, A)), 7), (over(held(A), root(held(B))), 6),
        )
        for f, count in cases:
            self.assertEqual(count_of(f), count, f)

    def test_count_at_and_beyond_the_bound(self):
        for count in (299, 300, 301):
            self.assertEqual(count_of(of_count(count)), count)

    def test_counts_of_mixed(self):
        for f in mixed(5, 100):
            self.assertEqual(count_of(f), len(walked(f)))

    def test_signs_between_parts(self):
        self.assertEqual(signs_of(even(A, B, C)), "==")
        self.assertEqual(signs_of(add("-+", A, B, C)), "-+")
        self.assertEqual(signs_of(times(A, B)), "*")

    def test_least_levels(self):
        for n in range(3):
            self.assertEqual(least_level(even(A, B, C), n), 1)
            self.assertEqual(least_level(add("+-", A, B, C), n), 2)
            self.assertEqual(least_level(times(A, B, C), n), 3)
            self.assertEqual(least_level(table((A, B, C)), n), 0)
        self.assertEqual(least_level(even(*[A] * 80), 79), 1)
        self.assertEqual([least_level(over(A, B), n) for n in range(2)], [0, 0])
        self.assertEqual([least_level(marked(A, B, C), n) for n in range(3)], [4, 0, 0])
        self.assertEqual([least_level(marked(A, B, None), n) for n in range(2)], [4, 0])
        self.assertEqual([least_level(marked(A, None, C), n) for n in range(2)], [4, 0])
        self.assertEqual(least_level(root(A), 0), 0)
        self.assertEqual(least_level(held(A), 0), 0)


class Rebuilt(unittest.TestCase):
    def rebuilds(self, f, some, again):
        kept = list(some)
        self.assertEqual(rebuilt(f, some), again)
        self.assertIs(type(rebuilt(f, some)), tuple)
        self.assertEqual(some, kept)

    def test_each_kind(self):
        self.rebuilds(X, [], X)
        self.rebuilds(TWO, [], TWO)
        self.rebuilds(even(A, B), [C, X], even(C, X))
        self.rebuilds(add("-+", A, B, C), [C, X, A], add("-+", C, X, A))
        self.rebuilds(times(A, B, C), [C, X, A], times(C, X, A))
        self.rebuilds(over(A, B), [C, X], over(C, X))
        self.rebuilds(root(A), [C], root(C))
        self.rebuilds(held(A), [C], held(C))
        self.rebuilds(marked(A, B, C), [C, X, A], marked(C, X, A))

    def test_missing_marks(self):
        self.rebuilds(marked(A, B, None), [C, X], marked(C, X, None))
        self.rebuilds(marked(A, None, B), [C, X], marked(C, None, X))

    def test_bands(self):
        some = [name(letter) for letter in "pqrstu"]
        p, q, r, s, t, u = some
        self.rebuilds(table((A, A), (A, A), (A, A)), some, table((p, q), (r, s), (t, u)))
        self.rebuilds(table((A, A, A), (A, A, A)), some, table((p, q, r), (s, t, u)))
        self.rebuilds(table((A,) * 6), some, table((p, q, r, s, t, u)))
        self.rebuilds(table(*[(A,)] * 6), some, table((p,), (q,), (r,), (s,), (t,), (u,)))

    def test_levels_and_bounds_are_not_looked_at(self):
        low, deep, many = even(A, B), nested_held(12), of_count(300)
        self.rebuilds(times(A, B), [low, low], times(low, low))
        self.rebuilds(add("-", A, B), [low, A], add("-", low, A))
        self.rebuilds(even(A, B), [A, low], even(A, low))
        self.rebuilds(marked(A, None, B), [low, low], marked(low, None, low))
        self.rebuilds(held(A), [deep], held(deep))
        self.rebuilds(over(A, B), [many, many], over(many, many))
        self.rebuilds(table((A,)), [table((A,))], table((table((A,)),)))

    def test_of_its_own_parts_it_is_itself(self):
        for f in list(KINDS.values()) + mixed(6, 100):
            self.rebuilds(f, parts_of(f), f)


class Grouped(unittest.TestCase):
    def groups(self, parts, signs, f):
        kept = list(parts)
        self.assertEqual(grouped(parts, signs), f)
        self.assertEqual(parts, kept)

    def test_one_alone(self):
        for f in KINDS.values():
            self.groups([f], "", f)

    def test_each_sign_by_itself(self):
        self.groups([A, B], "=", even(A, B))
        self.groups([A, B], "+", add("+", A, B))
        self.groups([A, B], "-", add("-", A, B))
        self.groups([A, B], "*", times(A, B))
        self.groups([A, B, C], "==", even(A, B, C))
        self.groups([A, B, C], "**", times(A, B, C))
        self.groups([A, B, C], "-+", add("-+", A, B, C))

    def test_the_documents_example(self):
        self.groups([A, B, C], "*=", even(times(A, B), C))

    def test_all_four_mixed(self):
        self.groups([A, B, C], "=*", even(A, times(B, C)))
        self.groups([A, B, C], "+*", add("+", A, times(B, C)))
        self.groups([A, B, C], "*-", add("-", times(A, B), C))
        self.groups([A, B, C], "=-", even(A, add("-", B, C)))
        parts = [name(letter) for letter in "abcdefghij"]
        a, b, c, d, e, f, g, h, i, j = parts
        self.groups(parts, "*+=-*-=**",
                    even(add("+", times(a, b), c), add("--", d, times(e, f), g), times(h, i, j)))
        self.groups(parts, "-*+=*=+*-",
                    even(add("-+", a, times(b, c), d), times(e, f), add("+-", g, times(h, i), j)))

    def test_80_parts(self):
        parts = [name(letter + other) for letter in "abcdefgh" for other in "ijklmnopqr"]
        self.groups(parts, "=" * 79, even(*parts))
        self.groups(parts, "*" * 79, times(*parts))
        self.groups(parts, "+-" * 39 + "-", add("+-" * 39 + "-", *parts))
        pairs = [times(parts[n], parts[n + 1]) for n in range(0, 80, 2)]
        self.groups(parts, "*=" * 39 + "*", even(*pairs))
        self.groups(parts, "*-" * 39 + "*", add("-" * 39, *pairs))

    def test_parts_are_not_taken_apart(self):
        e, s, t = even(A, B), add("-", A, B), times(A, B)
        for part in (e, s, t):
            self.groups([part, ONE], "=", even(part, ONE))
            self.groups([ONE, part], "+", add("+", ONE, part))
            self.groups([part, part], "*", times(part, part))
        self.groups([e, s, t], "*=", even(times(e, s), t))
        self.groups([e, s, t], "-*", add("-", e, times(s, t)))


if __name__ == "__main__":
    unittest.main()
