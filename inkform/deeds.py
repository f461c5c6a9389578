"""Deeds: formulas put in the place of parts."""

from inkform.errors import NoFormula
from inkform.formulas import is_formula, least_level, level_of, parts_of, rebuilt
from inkform.places import part_of


def put_in(f, path, g):
    # Asked for its refusal alone, which comes ahead of any other.
    part_of(f, path)
    return let_by(with_part(f, path, g))


# The path leads to a part.
def with_part(f, path, g):
    if path == ():
        return g
    parts = parts_of(f)
    n = path[0]
    parts[n] = fitting(f, n, g) if len(path) == 1 else with_part(parts[n], path[1:], g)
    return rebuilt(f, parts)


def filled(f, word, g):
    name = ("name", word)
    return let_by(g if f == name else filled_within(f, name, g))


# The parts are looked at before anything is put in, so what is put in isn't looked through.
def filled_within(f, name, g):
    some = []
    for n, part in enumerate(parts_of(f)):
        some.append(fitting(f, n, g) if part == name else filled_within(part, name, g))
    return rebuilt(f, some)


# What stands in the place n of the parts of f when g is put there.
def fitting(f, n, g):
    return g if level_of(g) >= least_level(f, n) else ("held", g)


def let_by(f):
    if not is_formula(f):
        raise NoFormula("what comes is no formula")
    return f
