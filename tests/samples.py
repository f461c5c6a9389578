"""For the tests: formulas and sketches, seeded makers of mixed ones, and what a sketch must be, sign by sign."""

import itertools
import random
import unittest

from inkform import errors
from inkform.grown import Grid, Held, Marked
from inkform.sketches import Chain, Led, Over, Root, Sketch, Word

FAR = 10 ** 9

REFUSALS = ("NoLine", "NoPart", "NoDrawing", "TooNarrow", "NoFormula", "NoRow", "NoName", "NoDeed")


def name(word):
    return ("name", word)


def number(n):
    return ("number", n)


def even(*parts):
    return ("even", parts)


def add(signs, *parts):
    return ("sum", parts, signs)


def times(*parts):
    return ("times", parts)


def over(above, beneath):
    return ("over", above, beneath)


def root(inner):
    return ("root", inner)


def marked(item, raised, lowered):
    return ("marked", item, raised, lowered)


def held(inner):
    return ("held", inner)


def table(*bands):
    return ("table", bands)


A = name("a")
B = name("b")
C = name("c")
X = name("x")
ONE = number(1)
TWO = number(2)

# Of each kind one, by its kind.
KINDS = {
    "name": X,
    "number": TWO,
    "even": even(A, B),
    "sum": add("+", A, B),
    "times": times(A, B),
    "over": over(A, B),
    "root": root(A),
    "marked": marked(A, B, C),
    "held": held(A),
    "table": table((A, B)),
}

LEVELS = {
    "even": 0, "sum": 1, "times": 2, "over": 3, "root": 3, "marked": 3,
    "name": 4, "number": 4, "held": 4, "table": 4,
}


def parts(f):
    """The parts of a formula in their order, told without asking the program."""
    if f[0] in ("name", "number"):
        return []
    if f[0] in ("even", "sum", "times"):
        return list(f[1])
    if f[0] == "table":
        return [cell for band in f[1] for cell in band]
    return [part for part in f[1:] if part is not None]


def again(f, some):
    """The formula with these in the place of its parts, told without asking the program."""
    if f[0] in ("name", "number"):
        return f
    if f[0] in ("even", "sum", "times"):
        return (f[0], tuple(some)) + f[2:]
    left = iter(some)
    if f[0] == "table":
        return table(*[tuple(next(left) for cell in band) for band in f[1]])
    return (f[0],) + tuple(None if part is None else next(left) for part in f[1:])


def asked_level(f, n):
    return {"even": 1, "sum": 2, "times": 3}.get(f[0], 4 if f[0] == "marked" and n == 0 else 0)


def fitted(f, n, g):
    """What stands in the place n of f's parts when g is put there, told without asking the program."""
    return held(g) if LEVELS[g[0]] < asked_level(f, n) else g


def placed(f, path, g):
    """The formula with g put in at a path that leads to a part, told without asking the program."""
    if path == ():
        return g
    some = parts(f)
    n = path[0]
    some[n] = fitted(f, n, g) if len(path) == 1 else placed(some[n], path[1:], g)
    return again(f, some)


def parts_by_path(f, path=()):
    """All pairs of a path and the part there, each one ahead of its own parts."""
    found = [(path, f)]
    for n, part in enumerate(parts(f)):
        found += parts_by_path(part, path + (n,))
    return found


def has_table(f):
    return f[0] == "table" or any(has_table(part) for part in parts(f))


def nests():
    """Each kind in each place of each kind, in brackets where the place asks for them; no table in a table."""
    outer = list(KINDS.values()) + [marked(A, B, None), marked(A, None, B), table((A, B), (C, X)), add("-+", A, B, C)]
    found = []
    for f in outer:
        for n in range(len(parts(f))):
            found += [placed(f, (n,), g) for g in KINDS.values() if not (f[0] == "table" and has_table(g))]
    return found


def of_each_shape(count):
    """All formulas of this count (at most 5 or so) whose names and numbers are a and 1."""
    if count == 1:
        return [A, ONE]
    found = []
    for some in several_shapes(count - 1):
        found += shapes_of(some)
    return found


def several_shapes(count):
    """All tuples of formulas whose counts are this one together."""
    found = [(f,) for f in of_each_shape(count)]
    for first in range(1, count):
        for f in of_each_shape(first):
            found += [(f,) + rest for rest in several_shapes(count - first)]
    return found


def shapes_of(some):
    """All formulas that have just these parts."""
    least = min(LEVELS[f[0]] for f in some)
    found = []
    if len(some) == 1:
        found += [root(*some), held(*some)]
    if len(some) == 2:
        found.append(over(*some))
        if LEVELS[some[0][0]] == 4:
            found += [marked(some[0], some[1], None), marked(some[0], None, some[1])]
    if len(some) == 3 and LEVELS[some[0][0]] == 4:
        found.append(marked(*some))
    if len(some) >= 2:
        found += [even(*some)] if least >= 1 else []
        found += [times(*some)] if least >= 3 else []
        if least >= 2:
            found += [add("".join(signs), *some) for signs in itertools.product("+-", repeat=len(some) - 1)]
    if not any(has_table(f) for f in some):
        for wide in range(1, len(some) + 1):
            if len(some) % wide == 0:
                found.append(table(*[some[n:n + wide] for n in range(0, len(some), wide)]))
    return found


def nested_held(depth):
    f = A
    for step in range(depth - 1):
        f = held(f)
    return f


def of_count(count):
    """A formula of this count (at least 240), shallow: an even of sums of names."""
    rest = count - 1 - 3 * 80
    parts = [add("+", A, B) for step in range(80)]
    for place in range(80):
        more = min(rest, 78)
        parts[place] = add("+" * (1 + more), *([A] * (2 + more)))
        rest -= more
        if rest == 0:
            break
    return even(*parts)


def at_the_bounds():
    """Formulas of depth 12 by each kind, of count 300, of 80 parts and of nine bands and columns."""
    deep = A
    for step in range(11):
        deep = (held, root, lambda f: over(B, f), lambda f: marked(B, None, f))[step % 4](deep)
    inner = nested_held(11)
    # Of these overs each part stands alone, so there are just as many of them as items in the drawing.
    overs = [A] * 150
    while len(overs) > 1:
        overs = overs[2:] + [over(overs[0], overs[1])]
    found = [deep, nested_held(12), of_count(300), held(overs[0])]
    found += [table((inner, A)), table((A, inner)), table((A,), (inner,)), over(inner, A), over(A, inner), root(inner)]
    found += [marked(inner, A, None), marked(A, inner, None), marked(A, None, inner), marked(inner, inner, inner)]
    found += [even(A, add("+", B, times(C, nested_held(9)))), even(A, inner), add("-", inner, A), times(inner, inner)]
    found += [even(*[A] * 80), add("+-" * 39 + "+", *[A] * 80), times(*[A] * 80), even(*[add("+", A, B)] * 80)]
    found += [table((A,) * 9), table(*[(A,)] * 9), table(*[tuple([name("abcdefgh"), over(A, B)] + [A] * 7)] * 9)]
    for nest in (root, lambda f: over(f, A), lambda f: over(A, f), lambda f: marked(A, f, None), lambda f: marked(A, f, B)):
        f = A
        for step in range(11):
            f = nest(f)
        found.append(f)
    return found


def beyond_the_bounds():
    """What would be a formula, were it not a little too deep, too many or too long."""
    deep = nested_held(12)
    found = [held(deep), root(deep), over(A, deep), over(deep, A), marked(A, deep, None), marked(A, None, deep)]
    found += [marked(deep, A, None), table((A, deep)), times(A, deep), even(A, add("+", B, nested_held(11)))]
    found += [of_count(301), held(of_count(300)), over(A, of_count(299))]
    found += [even(*[A] * 81), add("+" * 80, *[A] * 81), times(*[A] * 81)]
    found += [table((A,) * 10), table(*[(A,)] * 10), table(*[(A,) * 10] * 10), table(*[(A,) * 9] * 10)]
    found += [name("abcdefghi"), number(10 ** 9), table((table((A,)),)), table((A, held(root(table((A, B))))))]
    return found


class Maker:
    """Makes formulas within the bounds from a seed, without asking the program."""

    def __init__(self, seed):
        self.chance = random.Random(seed)
        self.left = 0

    def make(self, depth=12, count=300):
        self.left = self.chance.randint(1, count) - 1
        return self.part(depth, 0, True)

    def part(self, depth, level, tables):
        kinds = [kind for kind in sorted(LEVELS) if LEVELS[kind] >= level]
        kind = self.chance.choice(kinds)
        if kind == "table" and not tables:
            kind = "held"
        if depth == 1 or self.left < 4 or kind in ("name", "number"):
            return self.leaf()
        return self.nest(kind, depth - 1, tables)

    def leaf(self):
        if self.chance.random() < 0.3:
            return number(self.chance.choice((0, 7, 10, 999999999, self.chance.randint(0, 999999999))))
        return name("".join(self.chance.choices("abxyz", k=self.chance.randint(1, 8))))

    def several(self, how_many, depth, level, tables):
        self.left -= how_many
        return tuple(self.part(depth, level, tables) for step in range(how_many))

    def nest(self, kind, depth, tables):
        if kind in ("even", "sum", "times"):
            how_many = min(self.chance.choice((2, 2, 3, 5, 80)), self.left)
            parts = self.several(how_many, depth, LEVELS[kind] + 1, tables)
            if kind == "sum":
                return ("sum", parts, "".join(self.chance.choices("+-", k=how_many - 1)))
            return (kind, parts)
        if kind == "marked":
            self.left -= 3
            item = self.part(depth, 4, tables)
            marks = [self.part(depth, 0, tables), self.part(depth, 0, tables)]
            bare = self.chance.randint(0, 2)
            if bare < 2:
                marks[bare] = None
            return ("marked", item, marks[0], marks[1])
        if kind == "table":
            wide = self.chance.randint(1, min(9, self.left))
            high = self.chance.randint(1, min(9, self.left // wide))
            self.left -= wide * high
            return table(*[tuple(self.part(depth, 0, False) for step in range(wide)) for band in range(high)])
        return (kind,) + self.several(2 if kind == "over" else 1, depth, 0, tables)


def mixed(seed, how_many, depth=12, count=300):
    maker = Maker(seed)
    return [maker.make(depth, count) for step in range(how_many)]


class Floor:
    """What a sketch must be, told sign by sign at places around the base row's begin."""

    def __init__(self, wide, up, down, spots):
        self.wide = wide
        self.up = up
        self.down = down
        self.spots = spots
        self.signs = {}
        for floor, low, right in spots:
            for place, sign in floor.signs.items():
                self.signs[place[0] + low, place[1] + right] = sign

    def put(self, low, right, text):
        for step, sign in enumerate(text):
            self.signs[low, right + step] = sign

    def row(self, k):
        return "".join(self.signs.get((k, column), " ") for column in range(self.wide))


def both(plan):
    """The sketch and the floor of a plan: a tuple of a class's name and what it is made of."""
    return MAKERS[plan[0]](*plan[1:])


def both_sketch(wide, up, down):
    return Sketch(wide, up, down), Floor(wide, up, down, [])


def both_word(word):
    floor = Floor(len(word), 0, 0, [])
    floor.put(0, 0, word)
    return Word(word), floor


def both_chain(plans, signs):
    made = [both(plan) for plan in plans]
    spots, right = [], 0
    for sketch, floor in made:
        spots.append((floor, 0, right))
        right += floor.wide + 3
    whole = Floor(right - 3, max(floor.up for s, floor in made), max(floor.down for s, floor in made), spots)
    for sign, spot in zip(signs, spots[1:]):
        whole.put(0, spot[2] - 2, sign)
    return Chain([sketch for sketch, floor in made], signs), whole


def both_over(above_plan, beneath_plan):
    above, high = both(above_plan)
    beneath, deep = both(beneath_plan)
    wide = max(high.wide, deep.wide) + 2
    spots = [(high, -(high.down + 1), (wide - high.wide) // 2), (deep, deep.up + 1, (wide - deep.wide) // 2)]
    floor = Floor(wide, high.up + high.down + 1, deep.up + deep.down + 1, spots)
    floor.put(0, 0, "-" * wide)
    return Over(above, beneath), floor


def both_root(plan):
    inner, within = both(plan)
    floor = Floor(within.wide + 2, within.up + 1, within.down, [(within, 0, 2)])
    for k in range(-within.up, within.down + 1):
        floor.put(k, 1, "|")
    floor.put(0, 0, "V")
    floor.put(-within.up - 1, 2, "_" * within.wide)
    return Root(inner), floor


def both_led(sign, plan):
    inner, within = both(plan)
    floor = Floor(within.wide + 2, within.up, within.down, [(within, 0, 2)])
    floor.put(0, 0, sign)
    return Led(sign, inner), floor


def both_marked(item_plan, raised_plan, lowered_plan):
    item, main = both(item_plan)
    raised, high = (None, None) if raised_plan is None else both(raised_plan)
    lowered, deep = (None, None) if lowered_plan is None else both(lowered_plan)
    spots, more, up, down = [(main, 0, 0)], 0, main.up, main.down
    if high is not None:
        spots.append((high, -(main.up + 1 + high.down), main.wide))
        more, up = high.wide, up + high.up + high.down + 1
    if deep is not None:
        spots.append((deep, main.down + 1 + deep.up, main.wide))
        more, down = max(more, deep.wide), down + deep.up + deep.down + 1
    return Marked(item, raised, lowered), Floor(main.wide + more, up, down, spots)


def both_held(plan):
    inner, within = both(plan)
    floor = Floor(within.wide + 2, within.up, within.down, [(within, 0, 1)])
    for k in range(-within.up, within.down + 1):
        edges = "()" if k == 0 else "/\\" if k < 0 else "\\/"
        floor.put(k, 0, edges[0])
        floor.put(k, within.wide + 1, edges[1])
    return Held(inner), floor


def both_grid(plans):
    made = [[both(plan) for plan in band] for band in plans]
    ends, right = [], 1
    for column in range(len(made[0])):
        right += max(band[column][1].wide for band in made)
        ends.append(right)
        right += 2
    wide = ends[-1] + 1
    places, high = [], 0
    for band in made:
        base = high + max(floor.up for sketch, floor in band)
        places += [(floor, base, end - floor.wide) for (sketch, floor), end in zip(band, ends)]
        high = base + max(floor.down for sketch, floor in band) + 2
    high -= 1
    up = (high - 1) // 2
    whole = Floor(wide, up, high - 1 - up, [(floor, base - up, right) for floor, base, right in places])
    for k in range(-up, high - up):
        whole.put(k, 0, "[" if k == 0 else "|")
        whole.put(k, wide - 1, "]" if k == 0 else "|")
    return Grid([[sketch for sketch, floor in band] for band in made]), whole


MAKERS = {
    "sketch": both_sketch, "word": both_word, "chain": both_chain, "over": both_over, "root": both_root, "led": both_led,
    "marked": both_marked, "held": both_held, "grid": both_grid,
}


class PlanMaker:
    """Makes plans of these kinds from a seed: at most so deep, and of about so many sketches at most."""

    def __init__(self, seed, kinds):
        self.chance = random.Random(seed)
        self.kinds = kinds
        self.left = 0

    def make(self, depth, count):
        self.left = count - 1
        return self.part(depth)

    def part(self, depth):
        kind = self.chance.choice(self.kinds)
        if depth == 1 or self.left < 4 or kind in ("sketch", "word"):
            return self.leaf()
        return self.nest(kind, depth - 1)

    def leaf(self):
        chance = self.chance
        if chance.random() < 0.4:
            return ("sketch", chance.randint(0, 4), chance.randint(0, 3), chance.randint(0, 3))
        return ("word", "".join(chance.choices("ab1|/\\()[]", k=chance.randint(1, 5))))

    def several(self, how_many, depth):
        self.left -= how_many
        return [self.part(depth) for step in range(how_many)]

    def nest(self, kind, depth):
        chance = self.chance
        if kind == "chain":
            how_many = chance.randint(2, 4)
            return ("chain", self.several(how_many, depth), "".join(chance.choices("=+-*<", k=how_many - 1)))
        if kind == "marked":
            marks = chance.choice(((True, True), (True, False), (False, True)))
            return ("marked",) + tuple(self.several(1, depth)[0] if there else None for there in (True,) + marks)
        if kind == "grid":
            wide = chance.randint(1, min(3, self.left))
            high = chance.randint(1, min(3, self.left // wide))
            self.left -= wide * high
            return ("grid", [[self.part(depth) for step in range(wide)] for band in range(high)])
        if kind == "led":
            return ("led", chance.choice("=+-*"), self.several(1, depth)[0])
        return (kind,) + tuple(self.several(2 if kind == "over" else 1, depth))


def plan_count(plan):
    return 1 + sum(plan_count(inner) for inner in inner_plans(plan))


def plan_depth(plan):
    return 1 + max([plan_depth(inner) for inner in inner_plans(plan)], default=0)


def inner_plans(plan):
    found = []
    for value in plan[1:]:
        if isinstance(value, tuple):
            found.append(value)
        elif isinstance(value, list):
            for each in value:
                found += each if isinstance(each, list) else [each]
    return found


def plan_of(f):
    """The plan of a formula's sketch, told without asking the program."""
    kind = f[0]
    if kind in ("name", "number"):
        return ("word", str(f[1]))
    if kind in ("even", "sum", "times"):
        signs = f[2] if kind == "sum" else {"even": "=", "times": "*"}[kind] * (len(f[1]) - 1)
        return ("chain", [plan_of(part) for part in f[1]], signs)
    if kind == "table":
        return ("grid", [[plan_of(cell) for cell in band] for band in f[1]])
    return (kind,) + tuple(None if part is None else plan_of(part) for part in f[1:])


def floor_rows(plan):
    """The rows of a plan as the tests themselves tell them."""
    floor = both(plan)[1]
    return [floor.row(k) for k in range(-floor.up, floor.down + 1)]


def changed(rows, row, column, text):
    """The rows with this text in the place of the one sign there."""
    return rows[:row] + [rows[row][:column] + text + rows[row][column + 1:]] + rows[row + 1:]


class InkTest(unittest.TestCase):
    def refuses(self, word, call, *given):
        """The call is refused with the error of this name, which none of the other names takes."""
        with self.assertRaises(errors.InkError) as taken:
            call(*given)
        self.assertIsInstance(taken.exception, ValueError)
        self.assertEqual([each for each in REFUSALS if isinstance(taken.exception, getattr(errors, each))], [word])


class SketchTest(unittest.TestCase):
    def is_drawn(self, sketch, up, *rows):
        """The sketch has these rows, so many of them above the base row."""
        rows = list(rows)
        down = len(rows) - 1 - up
        self.assertEqual((sketch.wide, sketch.up, sketch.down), (len(rows[0]), up, down))
        self.assertEqual(sketch.rows(), rows)
        self.assertIs(type(sketch.rows()), list)
        self.assertEqual([sketch.row(k) for k in range(-up, down + 1)], rows)
        for k in (-up - 1, down + 1, -up - 2, down + 2, -up - 100, down + 100, -FAR, FAR):
            self.assertEqual(sketch.row(k), " " * sketch.wide, k)
        self.assertIsInstance(sketch, Sketch)

    def has_spots(self, sketch, *spots):
        told = sketch.spots()
        self.assertIs(type(told), list)
        self.assertEqual(len(told), len(spots))
        for mine, spot in zip(told, spots):
            self.assertIs(type(mine), tuple)
            self.assertIs(mine[0], spot[0])
            self.assertEqual(mine[1:], spot[1:])

    def is_like(self, sketch, floor):
        self.assertEqual((sketch.wide, sketch.up, sketch.down), (floor.wide, floor.up, floor.down))
        self.assertEqual(sketch.rows(), [floor.row(k) for k in range(-floor.up, floor.down + 1)])
        for k in range(-floor.up - 3, floor.down + 4):
            self.assertEqual(sketch.row(k), floor.row(k))
        for k in (-FAR, FAR):
            self.assertEqual(sketch.row(k), " " * floor.wide)
        self.is_spotted(sketch, floor)

    def is_spotted(self, sketch, floor):
        """Each sketch stands where its spot tells, as large as it is and, sign by sign, as itself."""
        told = [(inner.wide, inner.up, inner.down, low, right) for inner, low, right in sketch.spots()]
        self.assertEqual(told, [(inner.wide, inner.up, inner.down, low, right) for inner, low, right in floor.spots])
        for (inner, low, right), spot in zip(sketch.spots(), floor.spots):
            for k in range(-inner.up, inner.down + 1):
                self.assertEqual(sketch.row(low + k)[right:right + inner.wide], inner.row(k))
            self.is_spotted(inner, spot[0])

    def lists_are_the_askers_own(self, sketch):
        """What is done to told rows and spots changes nothing, and asking again changes nothing told before."""
        rows, spots = sketch.rows(), sketch.spots()
        kept_rows, kept_spots = list(rows), list(spots)
        self.assertIsNot(rows, sketch.rows())
        self.assertIsNot(spots, sketch.spots())
        for k in range(-sketch.up - 1, sketch.down + 2):
            sketch.row(k)
        sketch.rows().clear()
        sketch.spots().clear()
        Over(sketch, sketch).rows()
        Grid([[sketch, sketch]]).spots()
        self.assertEqual(rows, kept_rows)
        self.assertEqual(spots, kept_spots)
        rows[0] = "?"
        rows.append("!")
        spots.insert(0, (Word("z"), 5, 5))
        self.assertEqual(sketch.rows(), kept_rows)
        self.assertEqual(sketch.row(-sketch.up), kept_rows[0])
        self.has_spots(sketch, *kept_spots)
