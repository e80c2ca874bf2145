"""Places for the mirrors and pegs of a book, as many as are asked for.

In the drawing of a trial each choice that a line leaves is a power of a prime of
its own. What is not so in all drawings is not so in all but a few of these: it
comes to whether a sum of powers of unlike numbers is 0, and with growing trials
the greatest of these outweighs the others.
"""

from loosemirrors.leads import across_of, joined_leads, lead_of, middle_of, row_for
from loosemirrors.ratios import Ratio

# For ways of loose mirrors: no power of the spins of these but the power 0 is that of others, in the first trial.
WAYS = (2, 5, 11, 19, 29)
# For where a mirror or a peg is: two for each line.
PLACES = (3, 7, 13, 17, 23, 31, 37, 41, 43, 47, 53, 59, 61, 67, 71, 73, 79, 83, 89, 97, 101, 103, 107, 109)


def placed(book, trial):
    """Rows of a drawing of the book, another one for each trial from 0."""
    leads = {}
    rows = []
    for at, line in enumerate(book.lines):
        x, y = grown(PLACES[2 * at], trial), grown(PLACES[2 * at + 1], trial)
        if line.row:
            row = row_for(line.word, joined_leads([leads[name] for name in line.row]))
        elif line.word == "peg":
            row = peg_row(line, leads, x, y)
        else:
            row = mirror_row(line, leads, way_of(book, line, leads, trial), x)
        rows.append(row)
        leads[line.name] = lead_of(line.word, row)
    return tuple(rows)


def grown(prime, trial):
    """The power of a prime for a trial."""
    power = prime
    for _ in range(trial):
        power = power * prime
    return power


def way_of(book, line, leads, trial):
    """The numbers m and n of the row of a mirror."""
    if line.name in book.loose:
        return grown(WAYS[book.loose.index(line.name)], trial), 1
    m, n = across_of(leads[line.others[0]])
    return (-n, m) if line.form == "across" else (m, n)


def mirror_row(line, leads, way, x):
    """The row of a mirror with this way, through its peg or, if it has none, where x puts it."""
    m, n = way
    if line.form == "any":
        return m, n, x
    spot = middle_of(leads[line.others[-1]])
    return m, n, Ratio(m * spot.x + n * spot.y, spot.under)


def peg_row(line, leads, x, y):
    """The row of a peg that is told by no row of names."""
    others = [leads[name] for name in line.others]
    if line.form == "any":
        return x, y
    if line.form == "on":
        m, n = across_of(others[0])
        foot = middle_of(others[0])
        return Ratio(foot.x, foot.under) - n * x, Ratio(foot.y, foot.under) + m * x
    one, other = middle_of(others[0]), middle_of(others[1])
    return (half_between(one.x, one.under, other.x, other.under),
            half_between(one.y, one.under, other.y, other.under))


def half_between(number, under, more, below):
    """The middle of two fractions."""
    return Ratio(number * below + more * under, 2 * under * below)
