"""Drawings made by plain school geometry over Fractions, without anything of the package but Ratio."""

import random
from fractions import Fraction

from loosemirrors.ratios import Ratio


def reflected(row, dot):
    """Where a dot is mirrored in the mirror, or comes to by half a turn about the peg, of this row."""
    if len(row) == 2:
        return 2 * row[0] - dot[0], 2 * row[1] - dot[1]
    m, n, w = row
    far = (m * dot[0] + n * dot[1] - w) / Fraction(m * m + n * n)
    return dot[0] - 2 * far * m, dot[1] - 2 * far * n


def led(rows, steps, dot):
    """Where a dot is led by names of rows; rows is a dict."""
    for name in steps:
        dot = reflected(rows[name], dot)
    return dot


def line_through(one, other):
    m, n = one[1] - other[1], other[0] - one[0]
    return m, n, m * one[0] + n * one[1]


def two_dots_on(row):
    m, n, w = row
    square = Fraction(m * m + n * n)
    foot = (m * w / square, n * w / square)
    return foot, (foot[0] - n, foot[1] + m)


def middle(one, other):
    return (one[0] + other[0]) / Fraction(2), (one[1] + other[1]) / Fraction(2)


def mirror_by(rows, steps):
    """The row of the mirror that does what these steps do: it goes through the middles of dots and what they come to."""
    dots = [(Fraction(0), Fraction(0)), (Fraction(1), Fraction(0)), (Fraction(0), Fraction(1))]
    middles = [middle(dot, led(rows, steps, dot)) for dot in dots]
    apart = [dot for dot in middles if dot != middles[0]]
    return line_through(middles[0], apart[0])


def row_of(words, rows, chance):
    """The row of what a line with these words tells; chance tells a number where there is a choice."""
    kind, _, *rest = words
    if rest[:1] == ["is"]:
        if kind == "mirror":
            return mirror_by(rows, rest[1:])
        return middle((0, 0), led(rows, rest[1:], (Fraction(0), Fraction(0))))
    if kind == "peg":
        return peg_row(rest, rows, chance)
    return mirror_row(rest, rows, chance)


def peg_row(rest, rows, chance):
    if not rest:
        return chance(), chance()
    if rest[0] == "on":
        foot, far = two_dots_on(rows[rest[1]])
        share = chance()
        return foot[0] + share * (far[0] - foot[0]), foot[1] + share * (far[1] - foot[1])
    if rest[0] == "amid":
        return middle(rows[rest[1]], rows[rest[2]])
    return reflected(rows[rest[3]], rows[rest[1]])


def mirror_row(rest, rows, chance):
    if not rest:
        return way(chance) + (chance(),)
    if rest[0] == "from":
        one, other = two_dots_on(rows[rest[1]])
        return line_through(reflected(rows[rest[3]], one), reflected(rows[rest[3]], other))
    if rest[0] == "through":
        m, n = way(chance)
    elif rest[0] == "along":
        m, n, _ = rows[rest[1]]
    else:
        n, m, _ = rows[rest[1]]
        m = -m
    x, y = rows[rest[-1]]
    return m, n, m * x + n * y


def way(chance):
    m, n = chance(), chance()
    return (m, n) if m or n else way(chance)


def rows_of(text, chance):
    """The rows, by names, of a drawing of the book of this text."""
    rows = {}
    for line in text.split("\n"):
        words = line.split(" ")
        rows[words[1]] = row_of(words, rows, chance)
    return rows


def as_rows(rows):
    """Rows by names as a Drawing takes them, in Ratios."""
    return tuple(tuple(as_ratio(number) for number in row) for row in rows.values())


def as_ratio(number):
    number = Fraction(number)
    return Ratio(number.numerator, number.denominator)


def as_dot(dot):
    return as_ratio(dot[0]), as_ratio(dot[1])


def chances(seed, most=9, under=4):
    """A function that tells one small number after another, the same for the same seed."""
    source = random.Random(seed)
    return lambda: Fraction(source.randint(-most, most), source.randint(1, under))


def any_rows(text, seed, most=9, under=4):
    """Any rows of the book of this text, by names."""
    return rows_of(text, chances(seed, most, under))


THREE_DOTS = ((Fraction(0), Fraction(0)), (Fraction(1), Fraction(0)), (Fraction(0), Fraction(1)))


def do_alike(rows, steps, others):
    """Whether two rows of names lead three dots that lie in no line, and so all dots, alike."""
    return all(led(rows, steps, dot) == led(rows, others, dot) for dot in THREE_DOTS)


def lies_on(dot, row):
    return row[0] * dot[0] + row[1] * dot[1] == row[2]


def square(one, other):
    return (one[0] - other[0]) ** 2 + (one[1] - other[1]) ** 2


def is_so(rows, claim):
    """Whether a claim is so in a drawing by plain geometry."""
    kind, name, *rest = claim.split(" ")
    if kind == "even":
        return square(rows[name], rows[rest[0]]) == square(rows[rest[1]], rows[rest[2]])
    row, form = rows[name], rest[0]
    if form == "is":
        return do_alike(rows, [name], rest[1:])
    if form == "on":
        return lies_on(row, rows[rest[1]])
    if form == "amid":
        return row == middle(rows[rest[1]], rows[rest[2]])
    if form == "from" and kind == "peg":
        return row == reflected(rows[rest[3]], rows[rest[1]])
    if form == "from":
        return all(lies_on(reflected(rows[rest[3]], dot), row) for dot in two_dots_on(rows[rest[1]]))
    if not lies_on(rows[rest[-1]], row):
        return False
    m, n, _ = rows[rest[1]] if form != "through" else row
    return m * row[1] == n * row[0] if form != "across" else m * row[0] + n * row[1] == 0


def plain_rows(drawing):
    """The rows of a drawing by names, in Fractions."""
    return {name: tuple(Fraction(number.number, number.under) for number in drawing[name])
            for name in drawing.book.names}
