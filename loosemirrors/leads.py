"""Leads: what mirrors, pegs and rows of them do in one drawing."""

from math import gcd

from loosemirrors.ratios import Ratio, is_number
from loosemirrors.spots import Spot, is_dot, least_spot, spot_of, whole_of

# How many numbers the row of a mirror has.
SIZE = 3


class Lead:
    """It leads a spot (flipped, if it is over) to spin times it, and shift more."""

    def __init__(self, over, spin, shift):
        self.over = over
        self.spin = spin
        self.shift = shift

    def __eq__(self, other):
        return (isinstance(other, Lead) and self.over == other.over and self.spin == other.spin
                and self.shift == other.shift)


def led_by(lead, spot):
    """The spot to which a lead leads a spot."""
    return lead.spin * (spot.flipped() if lead.over else spot) + lead.shift


def joined_leads(leads):
    """What leads do, one behind the other."""
    over, spin, shift = False, Spot(1, 0), Spot(0, 0)
    for lead in leads:
        if lead.over:
            spin, shift = spin.flipped(), shift.flipped()
        over = over != lead.over
        spin = lead.spin * spin
        shift = lead.spin * shift + lead.shift
    return Lead(over, spin, shift)


def is_row_of(word, row):
    """Whether a value is the row of some mirror, or of some peg."""
    if word == "peg":
        return is_dot(row)
    if not isinstance(row, tuple) or len(row) != SIZE or not all([is_number(number) for number in row]):
        return False
    return any([number != 0 for number in whole_of(row[:2])[0]])


def lead_of(word, row):
    """What the mirror, or the peg, of this row does."""
    if word == "peg":
        return half_turn(spot_of(row))
    m, n, w = whole_of(row)[0]
    square = m * m + n * n
    return Lead(True, least_spot(n * n - m * m, -2 * m * n, square), least_spot(2 * w * m, 2 * w * n, square))


def half_turn(spot):
    """What a peg at this spot does."""
    return Lead(False, Spot(-1, 0), spot + spot)


def middle_of(lead):
    """The spot of a half turn: the one that it leads to itself."""
    return lead.shift * Spot(1, 0, 2)


def across_of(lead):
    """The whole numbers (m, n), in least terms, that stand at right angles to the line of a mirroring."""
    # A dot and where it is led lie on such a line, but for dots that stay.
    way = Spot(1, 0) + -lead.spin
    if way == Spot(0, 0):
        return 0, 1
    shared = gcd(way.x, way.y)
    return way.x // shared, way.y // shared


def row_for(word, lead):
    """The row of the mirror, or of the peg, that does what a lead does."""
    middle = middle_of(lead)
    if word == "peg":
        return Ratio(middle.x, middle.under), Ratio(middle.y, middle.under)
    m, n = across_of(lead)
    return m, n, Ratio(m * middle.x + n * middle.y, middle.under)


def kind_of_lead(lead):
    """The kind that a lead is of."""
    if lead.over:
        return "mirroring" if joined_leads([lead, lead]).shift == Spot(0, 0) else "glide"
    if lead.spin == Spot(1, 0):
        return "nothing" if lead.shift == Spot(0, 0) else "shift"
    return "half turn" if lead.spin == Spot(-1, 0) else "turn"


def is_told(line, lead, leads):
    """Whether a lead is what the line says, by the leads of the names ahead."""
    if line.row:
        return lead == joined_leads([leads[name] for name in line.row])
    others = [leads[name] for name in line.others]
    if line.form == "any":
        return True
    if line.form == "on":
        return stands_on(lead, others[0])
    if line.form == "amid":
        return lead.shift + lead.shift == others[0].shift + others[1].shift
    if line.form == "along" and lead.spin != others[0].spin:
        return False
    if line.form == "across" and lead.spin != -others[0].spin:
        return False
    return stands_on(others[-1], lead)


def stands_on(peg, mirror):
    """Whether a peg stands on a mirror."""
    spot = middle_of(peg)
    return led_by(mirror, spot) == spot
