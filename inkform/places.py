"""Places: the parts of a formula by their paths, and their boxes in its drawing."""

from inkform.drawing import sketch_of
from inkform.errors import NoPart
from inkform.formulas import parts_of
from inkform.sketches import height_of


def part_of(f, path):
    part = f
    for n in path:
        parts = parts_of(part)
        if not 0 <= n < len(parts):
            raise NoPart("the path leads nowhere")
        part = parts[n]
    return part


def places_of(f):
    sketch = sketch_of(f)
    return places_within(sketch, (), sketch.up, 0)


# The place of a sketch and of all that are in it; its base row and its first column in the drawing are told.
def places_within(sketch, path, base, left):
    places = [(path, base - sketch.up, left, height_of(sketch), sketch.wide, base)]
    # The spots come in the order of the formula's parts, so their numbers are those of the path.
    for n, spot in enumerate(sketch.spots()):
        places.extend(places_within(spot[0], path + (n,), base + spot[1], left + spot[2]))
    return places


def path_at(f, row, column):
    found = None
    # A part comes behind what it is a part of, and others share no place with it: the last box is the innermost.
    for path, top, left, high, wide, base in places_of(f):
        if top <= row < top + high and left <= column < left + wide:
            found = path
    return found
