"""Cuts: what is asked of rows of signs before anything is known of them, and rows cut out of them."""

from inkform.sketches import BLANK

# The signs that may stand in the first column of a drawing in other rows than the base row, and the blank.
EDGE_SIGNS = "/\\| "


def trimmed(rows):
    bands = bands_of(rows)
    if bands == []:
        return []
    columns = columns_of(rows)
    return cut_out(rows[bands[0][0]:bands[-1][1]], columns[0][0], columns[-1][1])


def cut_out(rows, first, end):
    return [row[first:end] for row in rows]


def base_of(rows):
    bases = [n for n, row in enumerate(rows) if row != "" and row[0] not in EDGE_SIGNS]
    return bases[0] if len(bases) == 1 else None


def run_end(text, place, sign):
    end = place
    while end < len(text) and text[end] == sign:
        end += 1
    return end


def closing(text, place):
    unclosed = 0
    for n in range(place, len(text)):
        if text[n] == "(":
            unclosed += 1
        elif text[n] == ")":
            unclosed -= 1
            if unclosed == 0:
                return n
    return None


def bands_of(rows):
    return stretches_of(rows, 1)


def columns_of(rows):
    return stretches_of(turned(rows), 2)


# The stretches of texts, each from one that isn't blank to another, that have so many blank ones or more between them.
def stretches_of(texts, parting):
    stretches = []
    for n, text in enumerate(texts):
        if text.strip(BLANK) == "":
            continue
        if stretches != [] and n - stretches[-1][1] < parting:
            stretches[-1] = (stretches[-1][0], n + 1)
        else:
            stretches.append((n, n + 1))
    return stretches


# The columns as texts. The rows are of one length, so a column is each so-many-th sign of all rows joined.
def turned(rows):
    wide = 0 if rows == [] else len(rows[0])
    signs = "".join(rows)
    return [signs[n::wide] for n in range(wide)]
