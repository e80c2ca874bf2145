"""Evens: whether two pegs are as far from one another as two others."""

from loosemirrors.leads import middle_of
from loosemirrors.moves import added, flipped, negated, summed, without_nothing


class Even:
    """The claim that the first two of four pegs are as far from one another as the last two."""

    def __init__(self, pegs):
        self.pegs = pegs

    def is_sure(self, plan):
        """Whether it is so in all drawings of what a plan tells."""
        one, other, third, last = self.pegs
        return sure_square(plan, one, other) == sure_square(plan, third, last)

    def is_so(self, leads):
        """Whether it is so in the drawing with these leads."""
        one, other, third, last = [middle_of(leads[name]) for name in self.pegs]
        return square_between(one, other) == square_between(third, last)


def sure_square(plan, one, other):
    """The square of how far two pegs are from one another, four times, as a sum of products of sources."""
    # Each peg's own sum is twice where it stands.
    way = summed(plan.moves[one].shares, negated(plan.moves[other].shares))
    return multiplied(way, flipped(way, plan.flips))


def multiplied(shares, more):
    """The product of two sums: of each two sources, with the powers of both, the share."""
    total = {}
    for (source, is_flipped, powers), share in shares.items():
        for (other, is_over, turns), part in more.items():
            one, two = (source, is_flipped), (other, is_over)
            key = (one, two, added(powers, turns)) if one < two else (two, one, added(powers, turns))
            total[key] = total.get(key, 0) + share * part
    return without_nothing(total)


def square_between(one, other):
    """The square of how far two spots are from one another, as a spot."""
    way = one + -other
    return way * way.flipped()
