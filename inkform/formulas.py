"""Formulas: tuples of ten kinds, their levels, parts and bounds."""

SMALL_LETTERS = "abcdefghijklmnopqrstuvwxyz"
MOST_LETTERS = 8
GREATEST_NUMBER = 999999999
MOST_PARTS = 80
MOST_IN_TABLE = 9
MOST_DEPTH = 12
MOST_COUNT = 300

# How many values the tuple of each kind has, the kind itself counted.
LENGTHS = {
    "name": 2,
    "number": 2,
    "even": 2,
    "sum": 3,
    "times": 2,
    "over": 3,
    "root": 2,
    "marked": 4,
    "held": 2,
    "table": 2,
}

LEVELS = {
    "even": 0,
    "sum": 1,
    "times": 2,
    "over": 3,
    "root": 3,
    "marked": 3,
    "name": 4,
    "number": 4,
    "held": 4,
    "table": 4,
}

# The kinds that are a row of parts with signs between them.
ROW_KINDS = ("even", "sum", "times")


def is_formula(thing):
    return has_form(thing) and depth_of(thing) <= MOST_DEPTH and count_of(thing) <= MOST_COUNT


# All that is asked of a formula but the bounds of depth and count, which only the whole can tell.
def has_form(thing):
    if not has_shell(thing):
        return False
    parts = parts_of(thing)
    for n, part in enumerate(parts):
        if not has_form(part) or level_of(part) < least_level(thing, n):
            return False
    return thing[0] != "table" or not any([holds_table(part) for part in parts])


# Whether the thing is such a tuple that its parts can be told, be they formulas or not.
def has_shell(thing):
    if not isinstance(thing, tuple) or len(thing) == 0 or not isinstance(thing[0], str):
        return False
    kind = thing[0]
    if kind not in LENGTHS or len(thing) != LENGTHS[kind]:
        return False
    if kind == "name":
        return is_word(thing[1])
    if kind == "number":
        return is_number_value(thing[1])
    if kind in ROW_KINDS:
        return is_stretch(thing[1], 2, MOST_PARTS) and (kind != "sum" or are_signs(thing[2], len(thing[1]) - 1))
    if kind == "marked":
        return thing[2] is not None or thing[3] is not None
    return kind != "table" or are_bands(thing[1])


def is_word(thing):
    if not isinstance(thing, str) or not 1 <= len(thing) <= MOST_LETTERS:
        return False
    return all([letter in SMALL_LETTERS for letter in thing])


def is_number_value(thing):
    # True and False are ints to Python, but no whole numbers here.
    if not isinstance(thing, int) or isinstance(thing, bool):
        return False
    return 0 <= thing <= GREATEST_NUMBER


def is_stretch(thing, least, most):
    return isinstance(thing, tuple) and least <= len(thing) <= most


def are_signs(thing, number):
    return isinstance(thing, str) and len(thing) == number and all([sign in "+-" for sign in thing])


def are_bands(thing):
    if not is_stretch(thing, 1, MOST_IN_TABLE):
        return False
    if not all([is_stretch(band, 1, MOST_IN_TABLE) for band in thing]):
        return False
    return all([len(band) == len(thing[0]) for band in thing])


def holds_table(f):
    return f[0] == "table" or any([holds_table(part) for part in parts_of(f)])


def level_of(f):
    return LEVELS[f[0]]


def parts_of(f):
    kind = f[0]
    if kind == "name" or kind == "number":
        return []
    if kind in ROW_KINDS:
        return list(f[1])
    if kind == "marked":
        return [f[1]] + [mark for mark in f[2:] if mark is not None]
    if kind == "table":
        return cells_of(f[1])
    return list(f[1:])


def cells_of(bands):
    cells = []
    for band in bands:
        cells.extend(band)
    return cells


def depth_of(f):
    return 1 + max([depth_of(part) for part in parts_of(f)], default=0)


def count_of(f):
    return 1 + sum([count_of(part) for part in parts_of(f)])


def least_level(f, n):
    kind = f[0]
    if kind in ROW_KINDS:
        return level_of(f) + 1
    return 4 if kind == "marked" and n == 0 else 0


# The signs that stand between the parts of an even, sum or times.
def signs_of(f):
    if f[0] == "sum":
        return f[2]
    sign = "=" if f[0] == "even" else "*"
    return sign * (len(f[1]) - 1)


def rebuilt(f, some):
    kind = f[0]
    if kind == "name" or kind == "number":
        return f
    if kind == "sum":
        return ("sum", tuple(some), f[2])
    if kind in ROW_KINDS:
        return (kind, tuple(some))
    if kind == "marked":
        return marked_again(f, some)
    if kind == "table":
        return ("table", bands_again(f[1], some))
    return (kind,) + tuple(some)


def marked_again(f, some):
    again = ["marked", some[0]]
    taken = 1
    for mark in f[2:]:
        if mark is None:
            again.append(None)
        else:
            again.append(some[taken])
            taken += 1
    return tuple(again)


def bands_again(bands, some):
    wide = len(bands[0])
    return tuple([tuple(some[n * wide:(n + 1) * wide]) for n in range(len(bands))])


def grouped(parts, signs):
    sums = [grouped_sum(some, between) for some, between in cut_at(parts, signs, "=")]
    return sums[0] if len(sums) == 1 else ("even", tuple(sums))


def grouped_sum(parts, signs):
    products = [grouped_times(some) for some, between in cut_at(parts, signs, "+-")]
    if len(products) == 1:
        return products[0]
    return ("sum", tuple(products), "".join([sign for sign in signs if sign in "+-"]))


def grouped_times(parts):
    return parts[0] if len(parts) == 1 else ("times", tuple(parts))


# The stretches of parts, each with the signs within it, that come of cutting at each of the signs told.
def cut_at(parts, signs, cutting):
    stretches = []
    first = 0
    for n, sign in enumerate(signs):
        if sign in cutting:
            stretches.append((parts[first:n + 1], signs[first:n]))
            first = n + 1
    stretches.append((parts[first:], signs[first:]))
    return stretches
