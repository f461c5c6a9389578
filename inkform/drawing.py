"""Drawings: the sketch of a formula, its rows, and rows shown as a text."""

from inkform.errors import NoDrawing
from inkform.formulas import ROW_KINDS, parts_of, signs_of
from inkform.grown import Grid, Held, Marked
from inkform.sketches import BLANK, Chain, Over, Root, Word


def sketch_of(f):
    kind = f[0]
    if kind == "name":
        return Word(f[1])
    if kind == "number":
        return Word(str(f[1]))
    if kind in ROW_KINDS:
        return Chain(sketches_of(parts_of(f)), signs_of(f))
    if kind == "over":
        return Over(sketch_of(f[1]), sketch_of(f[2]))
    if kind == "root":
        return Root(sketch_of(f[1]))
    if kind == "marked":
        return Marked(sketch_of(f[1]), mark_sketch(f[2]), mark_sketch(f[3]))
    if kind == "held":
        return Held(sketch_of(f[1]))
    return Grid([sketches_of(band) for band in f[1]])


def sketches_of(some):
    return [sketch_of(f) for f in some]


def mark_sketch(mark):
    return None if mark is None else sketch_of(mark)


def drawn(f):
    return sketch_of(f).rows()


def shown(rows):
    return "\n".join([row.rstrip(BLANK) for row in rows])


def rows_of(text):
    rows = text.split("\n")
    if any([row.endswith(BLANK) for row in rows]):
        raise NoDrawing("a row ends with a blank")
    wide = max([len(row) for row in rows])
    return [row.ljust(wide) for row in rows]
