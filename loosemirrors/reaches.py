"""Reaches: what rows of few steps come to in all drawings.

Each name undoes itself. So moves hang together by names both ways, and one that
is reached by so many steps is left again by as many.
"""

from loosemirrors.moves import joined


class Reach:
    """Moves by numbers, the first one 0: of each a row of fewest steps to it, and by names what comes next."""

    def __init__(self, first):
        self.moves = [first]
        self.rows = [()]
        self.ways = [{}]


def reach_of(plan, names, first, most):
    """The moves to which rows of at most so many steps of these names lead from a first one."""
    reach = Reach(first)
    start = 0
    for _ in range(most):
        stop = len(reach.moves)
        for number in range(start, stop):
            for name in names:
                if name not in reach.ways[number]:
                    lead_on(plan, reach, number, name)
        start = stop
    return reach


def lead_on(plan, reach, number, name):
    """Tells where one step leads from the move of this number, and back."""
    move = joined([reach.moves[number], plan.moves[name]], len(plan.loose), plan.flips)
    end = number_of(reach, move)
    if end is None:
        end = len(reach.moves)
        reach.moves.append(move)
        reach.rows.append(reach.rows[number] + (name,))
        reach.ways.append({})
    reach.ways[number][name] = end
    reach.ways[end][name] = number


def number_of(reach, move):
    """The number of a move; None if it is not reached."""
    for number, known in enumerate(reach.moves):
        if known == move:
            return number
    return None


def end_of(reach, row):
    """The number of the move to which a row leads from the first one."""
    number = 0
    for name in row:
        number = reach.ways[number][name]
    return number


def in_sequence(names):
    """Names as their texts stand, by which rows stand, too: a blank stands ahead of all letters."""
    return sorted([str(name) for name in names])


def rows_of(names, most):
    """All rows of none to so many of these names, by how many steps they have, then by their texts."""
    ordered = in_sequence(names)
    longest = [()]
    rows = [()]
    for _ in range(most):
        longest = [row + (name,) for row in longest for name in ordered]
        rows = rows + longest
    return rows
