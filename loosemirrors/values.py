"""What a sum of sources comes to in a drawing.

The spin of a mirror with whole numbers (m, n) is (m, n) divided by (m, -n), as
spots are multiplied and divided. So all powers of spins between a least and a
greatest one are whole numbers over one under, and great sums are added in
halves, each over no more of these than it needs.
"""

from math import gcd

from loosemirrors.moves import UNIT
from loosemirrors.ratios import Ratio
from loosemirrors.spots import Spot, whole_of


class Part:
    """Some terms added: x and y, over the powers from lows to highs of all spins."""

    def __init__(self, x, y, lows, highs):
        self.x = x
        self.y = y
        self.lows = lows
        self.highs = highs


def led_at(book, move, drawing, spot):
    """The dot to which a move of the book leads a spot in a drawing."""
    ways = [way_of(drawing[name]) for name in book.loose]
    start = spot.flipped() if move.over else spot
    terms = [(key[2], source_at(drawing, key), share) for key, share in move.shares.items()]
    terms.append((move.powers, start, move.sign * UNIT))
    under = 1
    for term in terms:
        below = term[1].under
        under = under * below // gcd(under, below)
    parts = []
    for powers, place, share in terms:
        times = share * (under // place.under)
        parts.append(Part(place.x * times, place.y * times, powers, powers))
    return divided(added_up(parts, 0, len(parts), ways), under * UNIT, ways)


def way_of(row):
    """The whole numbers (m, n), in least terms, of the row of a mirror."""
    m, n = whole_of(row[:2])[0]
    shared = gcd(m, n)
    return m // shared, n // shared


def source_at(drawing, key):
    """Where a source is in a drawing."""
    source, is_flipped, _ = key
    shift = drawing.leads[source].shift
    # A mirror leads (0, 0) to its source; a peg is itself amid (0, 0) and where it leads this.
    place = shift if drawing.leads[source].over else shift * Spot(1, 0, 2)
    return place.flipped() if is_flipped else place


def added_up(parts, start, stop, ways):
    """The sum of the parts from start on ahead of stop."""
    if stop - start == 1:
        return parts[start]
    middle = (start + stop) // 2
    one, other = added_up(parts, start, middle, ways), added_up(parts, middle, stop, ways)
    lows = tuple([min(int(low), more) for low, more in zip(one.lows, other.lows)])
    highs = tuple([max(int(high), more) for high, more in zip(one.highs, other.highs)])
    x, y = widened(one, lows, highs, ways)
    more, above = widened(other, lows, highs, ways)
    return Part(x + more, y + above, lows, highs)


def widened(part, lows, highs, ways):
    """The x and y of a part over more powers."""
    value = part.x, part.y
    for at, (m, n) in enumerate(ways):
        if part.lows[at] > lows[at]:
            value = multiplied(value, power_of((m, n), part.lows[at] - lows[at]))
        if part.highs[at] < highs[at]:
            value = multiplied(value, power_of((m, -n), highs[at] - part.highs[at]))
    return value


def divided(part, under, ways):
    """The dot of a part, divided by what stands under it."""
    value = part.x, part.y
    for (m, n), low, high in zip(ways, part.lows, part.highs):
        square = m * m + n * n
        # The contrary of a power is the power of the flipped way, divided by that of the square.
        value = multiplied(value, power_of((m, n) if low > 0 else (m, -n), abs(low)))
        value = multiplied(value, power_of((m, n) if high > 0 else (m, -n), abs(high)))
        under = under * whole_power(square, max(0, -low) + max(0, high))
    return Ratio(value[0], under), Ratio(value[1], under)


def multiplied(one, other):
    """The product of two spots of whole numbers."""
    return one[0] * other[0] - one[1] * other[1], one[0] * other[1] + one[1] * other[0]


def power_of(way, many):
    """A spot of whole numbers, so many times by itself."""
    power = (1, 0)
    while many > 0:
        if many & 1:
            power = multiplied(power, way)
        many = many // 2
        if many > 0:
            way = multiplied(way, way)
    return power


def whole_power(number, many):
    """A whole number, so many times by itself."""
    return power_of((number, 0), many)[0]
