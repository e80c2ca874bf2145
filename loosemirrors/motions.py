"""Motions: the tables of what scripts do in all drawings."""

from loosemirrors.books import steps_in
from loosemirrors.checks import is_whole
from loosemirrors.errors import BadDot, BadNumber, OtherBook
from loosemirrors.moves import UNIT, contrary, joined
from loosemirrors.plans import move_by
from loosemirrors.ratios import Ratio
from loosemirrors.spots import is_dot, spot_of
from loosemirrors.values import led_at

MOST_TIMES = 30


class Motion:
    """What a script does in all drawings of its book."""

    def __init__(self, book, move):
        self.book = book
        self.over = move.over
        self.sign = move.sign
        self.powers = move.powers
        self.terms = terms_for(move.shares)
        self._move = move

    def times(self, many):
        """What this one does, so many times in turn."""
        if not is_whole(many) or many < 0 or many > MOST_TIMES:
            raise BadNumber(many)
        return Motion(self.book, in_turn(self.book, [self._move] * many))

    def at(self, drawing, dot):
        """The dot to which it leads a dot in a drawing."""
        if drawing.book != self.book:
            raise OtherBook(drawing)
        if not is_dot(dot):
            raise BadDot(dot)
        return led_at(self.book, self._move, drawing, spot_of(dot))

    def __len__(self):
        return len(self.terms)

    def __mul__(self, other):
        if not isinstance(other, Motion):
            return NotImplemented
        if self.book != other.book:
            raise OtherBook(other)
        return Motion(self.book, in_turn(self.book, [self._move, other._move]))

    def __invert__(self):
        return Motion(self.book, contrary(self._move, self.book.plan.flips))

    def __eq__(self, other):
        return (isinstance(other, Motion) and self.book == other.book and self.over == other.over
                and self.sign == other.sign and self.powers == other.powers and self.terms == other.terms)


def table(book, script):
    """The Motion of what a script does in all drawings of a book."""
    return Motion(book, move_by(book.plan, steps_in(book, script)))


def in_turn(book, moves):
    """What moves of a book do, one behind the other."""
    return joined(moves, len(book.loose), book.plan.flips)


def terms_for(shares):
    """The terms of a table, ascending, of a sum of shares."""
    by_place = keys_by_place(shares)
    ratios = {share: Ratio(share, UNIT) for share in shares.values()}
    found = []
    for place in sorted([int(place) for place in by_place]):
        source, is_flipped, powers = by_place[place]
        found.append((source, is_flipped, powers, ratios[shares[by_place[place]]]))
    return tuple(found)


def keys_by_place(shares):
    """The keys of a sum, each by a whole number; these ascend as the keys do."""
    sources = {key[0]: True for key in shares}
    ranks = {}
    for rank, source in enumerate(sorted([str(name) for name in sources])):
        ranks[source] = rank
    reach = 1 + max([int(abs(power)) for key in shares for power in key[2]], default=0)
    by_place = {}
    for key in shares:
        source, is_flipped, powers = key
        place = 2 * ranks[source] + int(is_flipped)
        for power in powers:
            place = place * 2 * reach + power + reach
        by_place[place] = key
    return by_place
