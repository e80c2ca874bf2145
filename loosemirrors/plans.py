"""Plans: what the lines of a book tell in all drawings."""

from loosemirrors.lines import is_loose
from loosemirrors.moves import (
    UNIT, Move, contrary_powers, flipped, halved, joined, kind_of, negated, summed, turned,
)

# What a row must do for a line with `is` to stand.
ASKED = {"mirror": "mirroring", "peg": "half turn"}


class Plan:
    """Of each name its move, and of each (source, is_flipped) the sum that it comes to, flipped."""

    def __init__(self, loose):
        self.loose = loose
        self.moves = {}
        self.flips = {}


def plan_of(lines):
    """What lines tell, up to the first one with `is` that cannot stand behind those ahead of it."""
    plan = Plan(tuple([line.name for line in lines if is_loose(line)]))
    for line in lines:
        flips = flips_of(plan, line)
        for key in flips:
            plan.flips[key] = flips[key]
        move = move_of(plan, line)
        if line.form == "is" and kind_of(move, plan.flips) != ASKED[line.word]:
            return plan
        plan.moves[line.name] = move
    return plan


def move_by(plan, steps):
    """What a row of names does."""
    return joined([plan.moves[name] for name in steps], len(plan.loose), plan.flips)


def spin_of(plan, name):
    """The powers that are the spin of a loose mirror, once."""
    return tuple([int(loose == name) for loose in plan.loose])


def no_powers(plan):
    """The powers that leave all as it is."""
    return (0,) * len(plan.loose)


def move_of(plan, line):
    """The move of the name that a line tells."""
    if line.row:
        return move_by(plan, line.row)
    if line.word == "mirror":
        return mirror_of(plan, line)
    return peg_of(plan, line)


def mirror_of(plan, line):
    """The move of a mirror that is told by no row."""
    if line.form == "any":
        return Move(True, -1, spin_of(plan, line.name), {(line.name, False, no_powers(plan)): UNIT})
    if line.form == "through":
        return mirror_through(plan, -1, spin_of(plan, line.name), line.others[0])
    guide = plan.moves[line.others[0]]
    sign = -guide.sign if line.form == "across" else guide.sign
    return mirror_through(plan, sign, guide.powers, line.others[1])


def mirror_through(plan, sign, powers, peg):
    """The move of the mirror through a peg that leads with this sign and these powers."""
    # The peg stays where it is: what is added is the peg, less where sign and powers lead it, flipped.
    twice = plan.moves[peg].shares
    led = turned(flipped(twice, plan.flips), sign, powers)
    return Move(True, sign, powers, halved(summed(twice, negated(led))))


def peg_of(plan, line):
    """The move of a peg that is told by no row."""
    if line.form == "amid":
        one, other = plan.moves[line.others[0]], plan.moves[line.others[1]]
        shares = halved(summed(one.shares, other.shares))
    else:
        shares = {(line.name, False, no_powers(plan)): 2 * UNIT}
    return Move(False, -1, no_powers(plan), shares)


def flips_of(plan, line):
    """What the source of a line comes to, flipped; nothing for a line without one."""
    name, still = line.name, no_powers(plan)
    if line.form == "any" and line.word == "mirror":
        return {(name, False): {(name, False, contrary_powers(spin_of(plan, name))): UNIT}}
    if line.form == "any":
        return {(name, False): {(name, True, still): UNIT}, (name, True): {(name, False, still): UNIT}}
    if line.form == "on":
        # The mirror leads the peg to itself: the peg, less what the mirror adds, is led back and is flipped then.
        guide = plan.moves[line.others[0]]
        rest = summed({(name, False, still): UNIT}, negated(guide.shares))
        return {(name, False): turned(rest, guide.sign, contrary_powers(guide.powers))}
    return {}
