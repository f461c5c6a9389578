"""Lines: formulas written as a text, and read from it."""

from inkform.errors import NoLine
from inkform.formulas import MOST_DEPTH, ROW_KINDS, SMALL_LETTERS, grouped, is_formula, parts_of, signs_of

FIGURES = "0123456789"
MOST_FIGURES = 9
ROW_SIGNS = (" = ", " + ", " - ", " * ")


def written(f):
    kind = f[0]
    if kind == "name":
        return f[1]
    if kind == "number":
        return str(f[1])
    if kind in ROW_KINDS:
        return written_row(f)
    if kind == "over":
        return "{" + written(f[1]) + "/" + written(f[2]) + "}"
    if kind == "root":
        return "V{" + written(f[1]) + "}"
    if kind == "marked":
        return written(f[1]) + written_mark("^", f[2]) + written_mark("_", f[3])
    if kind == "held":
        return "(" + written(f[1]) + ")"
    return "[" + "; ".join([written_band(band) for band in f[1]]) + "]"


def written_row(f):
    parts = parts_of(f)
    pieces = [written(parts[0])]
    for sign, part in zip(signs_of(f), parts[1:]):
        pieces.append(" " + sign + " " + written(part))
    return "".join(pieces)


def written_mark(sign, mark):
    return "" if mark is None else sign + "{" + written(mark) + "}"


def written_band(band):
    return ", ".join([written(cell) for cell in band])


def read_line(text):
    f = LineReader(text).read_row(MOST_DEPTH)
    # Writing it again finds whatever the reader let by: noughts ahead of a number, signs left at the end.
    if not is_formula(f) or written(f) != text:
        raise NoLine("this text is no formula's line")
    return f


# Walks a text once from left to right; room is how deep what is read may still be,
# so that brackets opened without end are refused before they are followed.
class LineReader:
    def __init__(self, text):
        self.text = text
        self.place = 0

    def read_row(self, room):
        if room == 0:
            raise NoLine("too deep")
        parts = [self.read_item(room)]
        signs = ""
        while self.text[self.place:self.place + 3] in ROW_SIGNS:
            signs += self.text[self.place + 1]
            self.place += 3
            parts.append(self.read_item(room))
        return grouped(parts, signs)

    def read_item(self, room):
        item = self.read_bare(room)
        raised = self.read_mark("^{", room)
        lowered = self.read_mark("_{", room)
        if raised is None and lowered is None:
            return item
        return ("marked", item, raised, lowered)

    def read_bare(self, room):
        if self.passes("("):
            return ("held", self.read_closed(")", room))
        if self.passes("V{"):
            return ("root", self.read_closed("}", room))
        if self.passes("{"):
            above = self.read_closed("/", room)
            return ("over", above, self.read_closed("}", room))
        if self.passes("["):
            return ("table", self.read_bands(room))
        return self.read_leaf()

    def read_mark(self, begin, room):
        if not self.passes(begin):
            return None
        return self.read_closed("}", room)

    # A row that stands within brackets, and the sign behind it.
    def read_closed(self, end, room):
        inner = self.read_row(room - 1)
        if not self.passes(end):
            raise NoLine("not closed")
        return inner

    def read_bands(self, room):
        bands = [self.read_band(room)]
        while self.passes("; "):
            bands.append(self.read_band(room))
        if not self.passes("]"):
            raise NoLine("a table that isn't closed")
        return tuple(bands)

    def read_band(self, room):
        cells = [self.read_row(room - 1)]
        while self.passes(", "):
            cells.append(self.read_row(room - 1))
        return tuple(cells)

    def read_leaf(self):
        word = self.run_of(SMALL_LETTERS)
        if word != "":
            return ("name", word)
        figures = self.run_of(FIGURES)
        if not 1 <= len(figures) <= MOST_FIGURES:
            raise NoLine("no item, or a number that is too long")
        return ("number", int(figures))

    def run_of(self, signs):
        first = self.place
        while self.place < len(self.text) and self.text[self.place] in signs:
            self.place += 1
        return self.text[first:self.place]

    # Steps behind the wanted text where it stands here, and tells whether it did.
    def passes(self, wanted):
        if not self.text.startswith(wanted, self.place):
            return False
        self.place += len(wanted)
        return True
