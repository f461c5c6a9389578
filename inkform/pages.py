"""Pages: formulas broken into pieces no wider than a width, and read from these."""

from inkform.cuts import bands_of, base_of, trimmed
from inkform.drawing import sketch_of
from inkform.errors import NoDrawing, TooNarrow
from inkform.formulas import MOST_DEPTH, ROW_KINDS, grouped, is_formula, parts_of, signs_of
from inkform.reading import BETWEEN_SIGNS, DrawingReader, refuse_unlike
from inkform.sketches import BLANK, Chain, Led

# How many columns stand between two parts of one piece, and ahead of the first part of a led one.
GAP_WIDE = 3
LED_WIDE = 2


def pieces_of(f, width):
    if sketch_of(f).wide <= width:
        return [len(parts_of(f)) if f[0] in ROW_KINDS else 1]
    if f[0] not in ROW_KINDS:
        raise TooNarrow("too wide, and it can't be broken")
    return broken([sketch_of(part).wide for part in parts_of(f)], width)


def broken(widths, width):
    pieces = []
    taken = 0
    room = width
    while taken < len(widths):
        piece = how_many_fit(widths[taken:], room)
        if piece == 0:
            raise TooNarrow("one part alone is too wide")
        pieces.append(piece)
        taken += piece
        # All pieces but the first are led.
        room = width - LED_WIDE
    return pieces


# How many of them, from the first on, stand beside one another in so many columns.
def how_many_fit(widths, room):
    right = 0
    for n, wide in enumerate(widths):
        if right + wide > room:
            return n
        right += wide + GAP_WIDE
    return len(widths)


def page_of(f, width):
    pieces = piece_sketches(f, width)
    wide = max([piece.wide for piece in pieces])
    page = []
    for piece in pieces:
        if page != []:
            page.append(BLANK * wide)
        page.extend([row.ljust(wide) for row in piece.rows()])
    return page


def piece_sketches(f, width):
    pieces = pieces_of(f, width)
    if len(pieces) == 1:
        return [sketch_of(f)]
    parts = [sketch_of(part) for part in parts_of(f)]
    signs = signs_of(f)
    sketches = []
    first = 0
    for how_many in pieces:
        end = first + how_many
        piece = beside(parts[first:end], signs[first:end - 1])
        sketches.append(piece if first == 0 else Led(signs[first - 1], piece))
        first = end
    return sketches


def beside(sketches, signs):
    return sketches[0] if len(sketches) == 1 else Chain(sketches, signs)


def read_page(rows, width):
    refuse_unlike(rows)
    f = read_pieces(rows)
    if not is_formula(f) or not has_page(f, width, rows):
        raise NoDrawing("these rows are no formula's page for this width")
    return f


# Whichever part of the whole a piece broke off, the items along all pieces are those of the whole, in their order.
def read_pieces(rows):
    reader = DrawingReader()
    parts = []
    signs = ""
    for first, end in bands_of(rows):
        piece = rows[first:end]
        if parts != []:
            signs += leading_sign(piece)
            piece = [row[LED_WIDE:] for row in piece]
        found = reader.read_items(trimmed(piece), MOST_DEPTH)
        parts.extend(found[0])
        signs += found[1]
    if parts == []:
        raise NoDrawing("nothing but blanks")
    return grouped(parts, signs)


def leading_sign(piece):
    base = base_of(piece)
    if base is None or piece[base][0] not in BETWEEN_SIGNS:
        raise NoDrawing("a later piece without its sign")
    return piece[base][0]


def has_page(f, width, rows):
    try:
        page = page_of(f, width)
    except TooNarrow:
        return False
    return page == rows
