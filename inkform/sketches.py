"""Sketches: boxes of signs around a base row."""

BLANK = " "


# A sketch of blanks alone. The others tell by row_within what stands in the rows that they have.
class Sketch:
    def __init__(self, wide, up, down):
        self.wide = wide
        self.up = up
        self.down = down

    def row(self, k):
        if k < -self.up or k > self.down:
            return BLANK * self.wide
        return self.row_within(k)

    def row_within(self, k):
        return BLANK * self.wide

    def rows(self):
        return [self.row(k) for k in range(-self.up, self.down + 1)]

    def spots(self):
        return []


class Word(Sketch):
    def __init__(self, word):
        Sketch.__init__(self, len(word), 0, 0)
        self.word = word

    def row_within(self, k):
        return self.word


class Chain(Sketch):
    def __init__(self, parts, signs):
        wide = sum([part.wide for part in parts]) + 3 * (len(parts) - 1)
        up = max([part.up for part in parts])
        down = max([part.down for part in parts])
        Sketch.__init__(self, wide, up, down)
        self.parts = list(parts)
        self.signs = signs

    def row_within(self, k):
        pieces = [self.parts[0].row(k)]
        for sign, part in zip(self.signs, self.parts[1:]):
            pieces.append(BLANK + (sign if k == 0 else BLANK) + BLANK)
            pieces.append(part.row(k))
        return "".join(pieces)

    def spots(self):
        spots = []
        right = 0
        for part in self.parts:
            spots.append((part, 0, right))
            right += part.wide + 3
        return spots


class Over(Sketch):
    def __init__(self, above, beneath):
        Sketch.__init__(self, max(above.wide, beneath.wide) + 2, height_of(above), height_of(beneath))
        self.above = above
        self.beneath = beneath

    def row_within(self, k):
        if k == 0:
            return "-" * self.wide
        if k < 0:
            return amid(self.above.row(k + 1 + self.above.down), self.wide)
        return amid(self.beneath.row(k - 1 - self.beneath.up), self.wide)

    def spots(self):
        above = (self.above, -1 - self.above.down, left_of(self.above.wide, self.wide))
        beneath = (self.beneath, 1 + self.beneath.up, left_of(self.beneath.wide, self.wide))
        return [above, beneath]


class Root(Sketch):
    def __init__(self, inner):
        Sketch.__init__(self, inner.wide + 2, inner.up + 1, inner.down)
        self.inner = inner

    def row_within(self, k):
        if k == -self.up:
            return BLANK * 2 + "_" * self.inner.wide
        return ("V|" if k == 0 else BLANK + "|") + self.inner.row(k)

    def spots(self):
        return [(self.inner, 0, 2)]


class Led(Sketch):
    def __init__(self, sign, inner):
        Sketch.__init__(self, inner.wide + 2, inner.up, inner.down)
        self.sign = sign
        self.inner = inner

    def row_within(self, k):
        return (self.sign if k == 0 else BLANK) + BLANK + self.inner.row(k)

    def spots(self):
        return [(self.inner, 0, 2)]


def height_of(sketch):
    return sketch.up + 1 + sketch.down


# How many blanks stand at the left of what is narrower, when it stands amid.
def left_of(narrow, wide):
    return (wide - narrow) // 2


def amid(text, wide):
    return (BLANK * left_of(len(text), wide) + text).ljust(wide)
