"""Formulas for the tests: short makers, one of each kind, and a seeded maker of mixed ones."""

import random


def name(word):
    return ("name", word)


def number(n):
    return ("number", n)


def even(*parts):
    return ("even", parts)


def add(signs, *parts):
    return ("sum", parts, signs)


def times(*parts):
    return ("times", parts)


def over(above, beneath):
    return ("over", above, beneath)


def root(inner):
    return ("root", inner)


def marked(item, raised, lowered):
    return ("marked", item, raised, lowered)


def held(inner):
    return ("held", inner)


def table(*bands):
    return ("table", bands)


A = name("a")
B = name("b")
C = name("c")
X = name("x")
ONE = number(1)
TWO = number(2)

# Of each kind one, by its kind.
KINDS = {
    "name": X,
    "number": TWO,
    "even": even(A, B),
    "sum": add("+", A, B),
    "times": times(A, B),
    "over": over(A, B),
    "root": root(A),
    "marked": marked(A, B, C),
    "held": held(A),
    "table": table((A, B)),
}

LEVELS = {
    "even": 0, "sum": 1, "times": 2, "over": 3, "root": 3, "marked": 3,
    "name": 4, "number": 4, "held": 4, "table": 4,
}


def nested_held(depth):
    f = A
    for step in range(depth - 1):
        f = held(f)
    return f


def of_count(count):
    """A formula of this count (at least 240), shallow: an even of sums of names."""
    rest = count - 1 - 3 * 80
    parts = [add("+", A, B) for step in range(80)]
    for place in range(80):
        more = min(rest, 78)
        parts[place] = add("+" * (1 + more), *([A] * (2 + more)))
        rest -= more
        if rest == 0:
            break
    return even(*parts)


class Maker:
    """Makes formulas within the bounds from a seed, without asking the program."""

    def __init__(self, seed):
        self.chance = random.Random(seed)
        self.left = 0

    def make(self, depth=12, count=300):
        self.left = self.chance.randint(1, count) - 1
        return self.part(depth, 0, True)

    def part(self, depth, level, tables):
        kinds = [kind for kind in sorted(LEVELS) if LEVELS[kind] >= level]
        kind = self.chance.choice(kinds)
        if kind == "table" and not tables:
            kind = "held"
        if depth == 1 or self.left < 4 or kind in ("name", "number"):
            return self.leaf()
        return self.nest(kind, depth - 1, tables)

    def leaf(self):
        if self.chance.random() < 0.3:
            return number(self.chance.choice((0, 7, 10, 999999999, self.chance.randint(0, 999999999))))
        return name("".join(self.chance.choices("abxyz", k=self.chance.randint(1, 8))))

    def several(self, how_many, depth, level, tables):
        self.left -= how_many
        return tuple(self.part(depth, level, tables) for step in range(how_many))

    def nest(self, kind, depth, tables):
        if kind in ("even", "sum", "times"):
            how_many = min(self.chance.choice((2, 2, 3, 5, 80)), self.left)
            parts = self.several(how_many, depth, LEVELS[kind] + 1, tables)
            if kind == "sum":
                return ("sum", parts, "".join(self.chance.choices("+-", k=how_many - 1)))
            return (kind, parts)
        if kind == "marked":
            self.left -= 3
            item = self.part(depth, 4, tables)
            marks = [self.part(depth, 0, tables), self.part(depth, 0, tables)]
            bare = self.chance.randint(0, 2)
            if bare < 2:
                marks[bare] = None
            return ("marked", item, marks[0], marks[1])
        if kind == "table":
            wide = self.chance.randint(1, min(9, self.left))
            high = self.chance.randint(1, min(9, self.left // wide))
            self.left -= wide * high
            return table(*[tuple(self.part(depth, 0, False) for step in range(wide)) for band in range(high)])
        return (kind,) + self.several(2 if kind == "over" else 1, depth, 0, tables)


def mixed(seed, how_many, depth=12, count=300):
    maker = Maker(seed)
    return [maker.make(depth, count) for step in range(how_many)]
