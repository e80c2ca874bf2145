"""Spots: dots as whole numbers, of which there may be very great ones.

A spot is added, and multiplied as what turns and stretches about (0, 0): (1, 0)
leaves all as it is, (0, 1) turns by a quarter of a round.
"""

from math import gcd

from loosemirrors.ratios import Ratio, is_number, terms_of


class Spot:
    """The dot (x / under, y / under); x, y and under, which is at least 1, are in least terms."""

    def __init__(self, x, y, under=1):
        self.x = x
        self.y = y
        self.under = under

    def flipped(self):
        """The spot on the other side of the line from (0, 0) to (1, 0)."""
        return Spot(self.x, -self.y, self.under)

    def __eq__(self, other):
        return (isinstance(other, Spot) and self.x == other.x and self.y == other.y
                and self.under == other.under)

    def __neg__(self):
        return Spot(-self.x, -self.y, self.under)

    def __add__(self, other):
        return least_spot(self.x * other.under + other.x * self.under,
                          self.y * other.under + other.y * self.under, self.under * other.under)

    def __mul__(self, other):
        return least_spot(self.x * other.x - self.y * other.y,
                          self.x * other.y + self.y * other.x, self.under * other.under)


def least_spot(x, y, under):
    """The spot of the dot (x / under, y / under)."""
    shared = gcd(x, y, under)
    return Spot(x // shared, y // shared, under // shared)


def is_dot(value):
    """Whether a value is a dot: a tuple of two numbers."""
    return isinstance(value, tuple) and len(value) == 2 and all([is_number(number) for number in value])


def whole_of(numbers):
    """Numbers as whole numbers over one under: these, and the under."""
    pairs = [terms_of(number) for number in numbers]
    under = 1
    for _, part in pairs:
        under = under * part // gcd(under, part)
    return [number * (under // part) for number, part in pairs], under


def spot_of(dot):
    """The spot of a dot."""
    (x, y), under = whole_of(dot)
    return least_spot(x, y, under)


def dot_of(spot):
    """The dot of a spot, told as two Ratios."""
    return Ratio(spot.x, spot.under), Ratio(spot.y, spot.under)
