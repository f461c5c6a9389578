"""The desk: formulas kept by names, told and asked of by rows."""

from inkform.deeds import filled, put_in
from inkform.drawing import drawn, rows_of, shown, sketch_of
from inkform.errors import NoDeed, NoName, NoPart, NoRow
from inkform.formulas import is_word
from inkform.lines import FIGURES, read_line, written
from inkform.pages import page_of
from inkform.places import part_of, path_at
from inkform.reading import read_drawing
from inkform.sketches import height_of

MOST_FIGURES_TOLD = 6

# What follows the first word of each row. A line or a drawing takes all that is left.
FORMS = {
    "let": ("word", "line"),
    "scan": ("word", "drawing"),
    "put": ("word", "number", "number", "line"),
    "fill": ("word", "word", "word"),
    "drop": ("word",),
    "undo": (),
    "names": (),
    "line": ("word",),
    "draw": ("word",),
    "size": ("word",),
    "point": ("word", "number", "number"),
    "page": ("word", "number"),
}

DEEDS = ("let", "scan", "put", "fill", "drop")

# The deeds for which nothing needs to stand by the name.
MAKING_DEEDS = ("let", "scan")


class Desk:
    def __init__(self):
        self.formulas = {}
        # Of each deed that was not taken back the name, and the formula that it had ahead of the deed, or None.
        self.deeds = []

    def say(self, row):
        words = words_of(row)
        if words[0] == "undo":
            return self.take_back()
        if words[0] == "names":
            return " ".join(sorted(self.formulas))
        self.refuse_names(words)
        if words[0] in DEEDS:
            return self.do_deed(words)
        return answer_of(self.formulas[words[1]], words)

    def refuse_names(self, words):
        if not is_word(words[1]):
            raise NoName("no name")
        if words[0] not in MAKING_DEEDS and words[1] not in self.formulas:
            raise NoName("nothing stands by this name")
        if words[0] == "fill" and not (is_word(words[2]) and words[3] in self.formulas):
            raise NoName("no word, or nothing stands by the other name")

    def do_deed(self, words):
        # All that may be refused comes first, so that what is refused changes nothing.
        after = self.formula_after(words)
        self.deeds.append((words[1], self.formulas.get(words[1])))
        self.keep(words[1], after)
        return "ok"

    # The formula that stands by the name behind the deed, or None.
    def formula_after(self, words):
        if words[0] == "let":
            return read_line(words[2])
        if words[0] == "scan":
            return read_drawing(rows_of(words[2]))
        if words[0] == "drop":
            return None
        f = self.formulas[words[1]]
        if words[0] == "fill":
            return filled(f, words[2], self.formulas[words[3]])
        path = path_at(f, words[2], words[3])
        if path is None:
            raise NoPart("the place is outside of the drawing")
        return put_in(f, path, read_line(words[4]))

    def keep(self, name, f):
        if f is None:
            self.formulas.pop(name, None)
        else:
            self.formulas[name] = f

    def take_back(self):
        if self.deeds == []:
            raise NoDeed("no deed is left")
        deed = self.deeds.pop()
        self.keep(deed[0], deed[1])
        return "ok"


def answer_of(f, words):
    if words[0] == "line":
        return written(f)
    if words[0] == "draw":
        return shown(drawn(f))
    if words[0] == "size":
        return size_of(sketch_of(f))
    if words[0] == "page":
        return shown(page_of(f, words[2]))
    path = path_at(f, words[2], words[3])
    return "-" if path is None else written(part_of(f, path))


def size_of(sketch):
    return " ".join([str(n) for n in (height_of(sketch), sketch.wide, sketch.up)])


# The first word of the row and what follows it, as its form tells; numbers as whole numbers.
def words_of(row):
    verb = row.partition(" ")[0]
    if verb not in FORMS:
        raise NoRow("no row begins so")
    form = FORMS[verb]
    words = cut_row(row, form)
    if len(words) != 1 + len(form):
        raise NoRow("too few or too many words")
    return [verb] + [value_of(word, kind) for word, kind in zip(words[1:], form)]


def cut_row(row, form):
    if form[-1:] == ("drawing",):
        return cut_scan(row)
    if "\n" in row:
        raise NoRow("a line end")
    if form[-1:] == ("line",):
        return row.split(" ", len(form))
    return row.split(" ")


def cut_scan(row):
    halves = row.partition("\n")
    if halves[1] == "":
        raise NoRow("no line end ahead of the drawing")
    return halves[0].split(" ") + [halves[2]]


def value_of(word, kind):
    if kind == "line" or kind == "drawing":
        return word
    if word == "":
        raise NoRow("a word without signs")
    return told_number(word) if kind == "number" else word


def told_number(word):
    if len(word) > MOST_FIGURES_TOLD or not all([sign in FIGURES for sign in word]):
        raise NoRow("no number, or too many figures")
    if word[0] == "0" and word != "0":
        raise NoRow("a nought ahead")
    return int(word)
