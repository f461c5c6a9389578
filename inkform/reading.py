"""Reading: the formula that a drawing alone tells."""

from inkform.cuts import bands_of, base_of, closing, columns_of, cut_out, run_end, trimmed
from inkform.drawing import drawn
from inkform.errors import NoDrawing
from inkform.formulas import MOST_COUNT, MOST_DEPTH, SMALL_LETTERS, grouped, is_formula
from inkform.lines import FIGURES, MOST_FIGURES
from inkform.sketches import BLANK

BETWEEN_SIGNS = "=+-*"


def read_drawing(rows):
    refuse_unlike(rows)
    f = DrawingReader().read_row(rows, MOST_DEPTH)
    # The reader looks only for what tells the parts; drawing them again finds all else that isn't as it must be.
    if not is_formula(f) or drawn(f) != rows:
        raise NoDrawing("these rows are no formula's drawing")
    return f


def refuse_unlike(rows):
    if any([len(row) != len(rows[0]) for row in rows]):
        raise NoDrawing("rows of unlike lengths")


# Reads along base rows. room is how deep what is read may still be, left how many items may still come,
# so that brackets and bars without end are refused before they are followed.
class DrawingReader:
    def __init__(self):
        self.left = MOST_COUNT

    def read_row(self, rows, room):
        found = self.read_items(rows, room)
        return grouped(found[0], found[1])

    # The items of the base row, a list, and a text of the signs between them.
    def read_items(self, rows, room):
        base = base_of(rows)
        if base is None:
            raise NoDrawing("no base row, or more than one")
        if room == 0:
            raise NoDrawing("too deep")
        parts = []
        signs = ""
        for first, end, behind in stretches_along(rows, base):
            parts.append(self.read_item(rows, base, first, end, behind, room))
            # Behind the last item there is no sign, and this adds none.
            signs += rows[base][behind + 1:behind + 2]
        return (parts, signs)

    # The item from first to end, with the marks that stand up to behind.
    def read_item(self, rows, base, first, end, behind, room):
        self.left -= 1
        if self.left < 0:
            raise NoDrawing("too many items")
        item = self.read_bare(rows, base, first, end, room)
        raised = self.read_mark(cut_out(rows[:base], end, behind), room)
        lowered = self.read_mark(cut_out(rows[base + 1:], end, behind), room)
        if raised is None and lowered is None:
            return item
        return ("marked", item, raised, lowered)

    def read_bare(self, rows, base, first, end, room):
        text = rows[base][first:end]
        if text[0] in SMALL_LETTERS:
            return ("name", text)
        if text[0] in FIGURES:
            return ("number", number_of(text))
        if text[0] == "(":
            return ("held", self.read_within(cut_out(rows, first + 1, end - 1), room))
        if text[0] == "-":
            above = self.read_within(cut_out(rows[:base], first, end), room)
            return ("over", above, self.read_within(cut_out(rows[base + 1:], first, end), room))
        if text[0] == "V":
            beneath_roof = rows[roof_of(rows, base, first) + 1:]
            return ("root", self.read_within(cut_out(beneath_roof, first + 2, end), room))
        return ("table", self.read_bands(trimmed(cut_out(rows, first + 1, end - 1)), room))

    def read_mark(self, rows, room):
        mark = trimmed(rows)
        return None if mark == [] else self.read_row(mark, room - 1)

    # What stands alone in rows that may have blanks around it.
    def read_within(self, rows, room):
        return self.read_row(trimmed(rows), room - 1)

    def read_bands(self, rows, room):
        columns = columns_of(rows)
        return tuple([self.read_band(rows[top:end], columns, room) for top, end in bands_of(rows)])

    def read_band(self, rows, columns, room):
        return tuple([self.read_within(cut_out(rows, first, end), room) for first, end in columns])


# Of each item along the base row its first column, the column behind it, and the column behind its marks:
# that is the blank ahead of the next sign, or the end.
def stretches_along(rows, base):
    text = rows[base]
    stretches = []
    place = 0
    while place < len(text):
        end = item_end(rows, base, place)
        sign_place = run_end(text, end, BLANK)
        if sign_place == len(text):
            stretches.append((place, end, sign_place))
            return stretches
        if sign_place == end or text[sign_place] not in BETWEEN_SIGNS:
            raise NoDrawing("no blank and sign behind an item")
        stretches.append((place, end, sign_place - 1))
        place = sign_place + 2
    raise NoDrawing("a sign without an item behind it")


# The column behind the item that begins at this place of the base row.
def item_end(rows, base, place):
    text = rows[base]
    sign = text[place]
    for alike in (SMALL_LETTERS, FIGURES, "-"):
        if sign in alike:
            return len(text) - len(text[place:].lstrip(alike))
    if sign == "(":
        return behind_closing(closing(text, place))
    if sign == "[":
        # There is no table in a table, so the first bracket that closes is its own.
        return behind_closing(text.find("]", place))
    if sign == "V":
        return run_end(rows[roof_of(rows, base, place)], place + 2, "_")
    raise NoDrawing("no item begins so")


def behind_closing(place):
    if place is None or place < 0:
        raise NoDrawing("a bracket that isn't closed")
    return place + 1


# The row of the roof of the root whose sign stands at this place of the base row.
def roof_of(rows, base, place):
    top = base
    while top >= 0 and rows[top][place + 1:place + 2] == "|":
        top -= 1
    if top < 0 or top == base:
        raise NoDrawing("a root without a stem or a roof")
    return top


def number_of(figures):
    if len(figures) > MOST_FIGURES:
        raise NoDrawing("a number of too many figures")
    return int(figures)
