"""Moves: what rows do in all drawings.

A move leads each dot z to sign times the powers of z (of z flipped, if it is
over), and to that it adds a sum of sources. A sum is a dict: of each key
(source, is_flipped, powers) its share, an integer of so many parts of UNIT.
"""

# A line halves at most once what the lines ahead tell, and a book has at most
# twelve lines: so all shares are whole numbers of these parts of 1.
UNIT = 2 ** 12


class Move:
    """What a row does in all drawings."""

    def __init__(self, over, sign, powers, shares):
        self.over = over
        self.sign = sign
        self.powers = powers
        self.shares = shares

    def __eq__(self, other):
        return (isinstance(other, Move) and self.over == other.over and self.sign == other.sign
                and self.powers == other.powers and self.shares == other.shares)


def added(powers, more):
    """Powers behind powers."""
    return tuple([one + other for one, other in zip(powers, more)])


def taken(powers, less):
    """Powers behind the contrary ones of others."""
    return tuple([one - other for one, other in zip(powers, less)])


def contrary_powers(powers):
    """The powers that undo powers."""
    return tuple([-one for one in powers])


def without_nothing(shares):
    """A sum without shares of 0."""
    return {key: shares[key] for key in shares if shares[key] != 0}


def summed(shares, more):
    """The sum of two sums."""
    total = {key: shares[key] for key in shares}
    for key in more:
        total[key] = total.get(key, 0) + more[key]
    return without_nothing(total)


def negated(shares):
    """A sum, times -1."""
    return {key: -shares[key] for key in shares}


def halved(shares):
    """Half of a sum."""
    return {key: shares[key] // 2 for key in shares}


def flipped(shares, flips):
    """A sum, flipped; flips tells of each (source, is_flipped) what it comes to, flipped."""
    total = {}
    for (source, is_flipped, powers), share in shares.items():
        for (image, is_over, turns), part in flips[(source, is_flipped)].items():
            key = (image, is_over, taken(turns, powers))
            total[key] = total.get(key, 0) + share * part // UNIT
    return without_nothing(total)


def turned(shares, sign, powers):
    """A sum, led by sign times the powers."""
    return {(source, is_flipped, added(own, powers)): sign * share
            for (source, is_flipped, own), share in shares.items()}


def joined(moves, many, flips):
    """What moves do, one behind the other, in a book with so many loose mirrors."""
    over, sign, powers = False, 1, (0,) * many
    total = {}
    # From the last one to the first one: so each sum is led but once, by all that comes behind it.
    for move in reversed(list(moves)):
        shares = flipped(move.shares, flips) if over else move.shares
        led = turned(shares, sign, powers)
        for key in led:
            total[key] = total.get(key, 0) + led[key]
        powers = taken(powers, move.powers) if over else added(powers, move.powers)
        sign = sign * move.sign
        over = over != move.over
    return Move(over, sign, powers, without_nothing(total))


def contrary(move, flips):
    """The move that undoes a move."""
    if move.over:
        powers, shares = move.powers, flipped(move.shares, flips)
    else:
        powers, shares = contrary_powers(move.powers), move.shares
    return Move(move.over, move.sign, powers, turned(shares, -move.sign, powers))


def kind_of(move, flips):
    """The kind that a move is of in all drawings but those in which it is of a lesser one."""
    if move.over:
        twice = joined([move, move], len(move.powers), flips)
        return "glide" if twice.shares else "mirroring"
    if any([power != 0 for power in move.powers]):
        return "turn"
    if move.sign == -1:
        return "half turn"
    return "shift" if move.shares else "nothing"
