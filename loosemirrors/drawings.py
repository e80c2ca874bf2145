"""Drawings: mirrors and pegs of a book, each at its place."""

from loosemirrors.books import steps_in
from loosemirrors.errors import BadDot, BadRows, NoName
from loosemirrors.leads import is_row_of, is_told, joined_leads, lead_of, led_by
from loosemirrors.placing import placed
from loosemirrors.ratios import Ratio, terms_of
from loosemirrors.spots import dot_of, is_dot, spot_of


class Drawing:
    """A book, and of each of its lines the row of numbers of its mirror or peg."""

    def __init__(self, book, rows):
        if not isinstance(rows, tuple) or len(rows) != len(book):
            raise BadRows(rows)
        leads = leads_of(book, rows)
        if len(leads) < len(rows):
            raise BadRows(rows)
        self.book = book
        self.rows = tuple([as_ratios(row) for row in rows])
        self.leads = leads

    def led(self, script, dot):
        """The dot to which a script leads a dot."""
        steps = steps_in(self.book, script)
        if not is_dot(dot):
            raise BadDot(dot)
        spot = spot_of(dot)
        for name in steps:
            spot = led_by(self.leads[name], spot)
        return dot_of(spot)

    def __getitem__(self, name):
        if name not in self.book.names:
            raise NoName(name)
        return self.rows[self.book.names.index(name)]

    def __iter__(self):
        raise TypeError("a Drawing is not gone over: take its rows")

    def __eq__(self, other):
        return isinstance(other, Drawing) and self.book == other.book and self.rows == other.rows


def draw(book):
    """A Drawing of the book."""
    return drawn(book, 0)


def drawn(book, trial):
    """A Drawing of the book, another one for each trial from 0."""
    return Drawing(book, placed(book, trial))


def lead_by(drawing, steps):
    """What a row of names does in a drawing."""
    return joined_leads([drawing.leads[name] for name in steps])


def leads_of(book, rows):
    """What names do by their rows, one for each line from the first one on, ahead of the first wrong row."""
    leads = {}
    for line, row in zip(book.lines, rows):
        if not is_row_of(line.word, row):
            return leads
        lead = lead_of(line.word, row)
        if not is_told(line, lead, leads):
            return leads
        leads[line.name] = lead
    return leads


def as_ratios(row):
    """A row, its numbers told as Ratios."""
    found = []
    for number in row:
        above, under = terms_of(number)
        found.append(Ratio(above, under))
    return tuple(found)
