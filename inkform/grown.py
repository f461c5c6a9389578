"""Sketches that grow with what they hold: marked ones, held ones and grids."""

from inkform.sketches import BLANK, Sketch, height_of


class Marked(Sketch):
    def __init__(self, item, raised, lowered):
        marks = [mark for mark in (raised, lowered) if mark is not None]
        room = max([mark.wide for mark in marks], default=0)
        up = item.up + (0 if raised is None else height_of(raised))
        down = item.down + (0 if lowered is None else height_of(lowered))
        Sketch.__init__(self, item.wide + room, up, down)
        self.item = item
        self.raised = raised
        self.lowered = lowered

    def row_within(self, k):
        return (self.item.row(k) + self.mark_row(k)).ljust(self.wide)

    # What stands behind the item in this row, without the blanks that fill it up.
    def mark_row(self, k):
        if k < -self.item.up:
            return self.raised.row(k - self.raised_low())
        if k > self.item.down:
            return self.lowered.row(k - self.lowered_low())
        return ""

    def raised_low(self):
        return -self.item.up - 1 - self.raised.down

    def lowered_low(self):
        return self.item.down + 1 + self.lowered.up

    def spots(self):
        spots = [(self.item, 0, 0)]
        if self.raised is not None:
            spots.append((self.raised, self.raised_low(), self.item.wide))
        if self.lowered is not None:
            spots.append((self.lowered, self.lowered_low(), self.item.wide))
        return spots


class Held(Sketch):
    def __init__(self, inner):
        Sketch.__init__(self, inner.wide + 2, inner.up, inner.down)
        self.inner = inner

    def row_within(self, k):
        if k == 0:
            return "(" + self.inner.row(k) + ")"
        if k < 0:
            return "/" + self.inner.row(k) + "\\"
        return "\\" + self.inner.row(k) + "/"

    def spots(self):
        return [(self.inner, 0, 1)]


class Grid(Sketch):
    def __init__(self, bands):
        self.bands = [list(band) for band in bands]
        self.widths = column_widths(self.bands)
        # Kept for each row, so that a row of a high grid is told without walking all bands.
        self.band_numbers = numbers_by_row(self.bands)
        high = len(self.band_numbers)
        up = (high - 1) // 2
        # Two signs more for each column: its gap, which the last one hasn't, but there are the two edges.
        Sketch.__init__(self, sum(self.widths) + 2 * len(self.widths), up, high - 1 - up)
        self.lows = band_lows(self.bands, up)

    def row_within(self, k):
        number = self.band_numbers[k + self.up]
        inside = BLANK * (self.wide - 2) if number is None else self.band_row(number, k)
        return "[" + inside + "]" if k == 0 else "|" + inside + "|"

    def band_row(self, number, k):
        own = k - self.lows[number]
        return "  ".join([sketch.row(own).rjust(wide) for sketch, wide in zip(self.bands[number], self.widths)])

    def spots(self):
        spots = []
        for band, low in zip(self.bands, self.lows):
            right = 1
            for sketch, wide in zip(band, self.widths):
                spots.append((sketch, low, right + wide - sketch.wide))
                right += wide + 2
        return spots


def column_widths(bands):
    return [max([band[n].wide for band in bands]) for n in range(len(bands[0]))]


# Of each row of the grid, from the top, the number of its band; None for the row between two bands.
def numbers_by_row(bands):
    numbers = []
    for n, band in enumerate(bands):
        if n > 0:
            numbers.append(None)
        numbers.extend([n] * band_height(band))
    return numbers


# How far each band's base row lies beneath the grid's, which has so many rows above it.
def band_lows(bands, up):
    lows = []
    top = -up
    for band in bands:
        lows.append(top + greatest_up(band))
        top += band_height(band) + 1
    return lows


def band_height(band):
    return greatest_up(band) + 1 + max([sketch.down for sketch in band])


def greatest_up(band):
    return max([sketch.up for sketch in band])
