"""Least rows: those that do nothing, and the shortest one that does the same as a script."""

from loosemirrors.books import steps_in
from loosemirrors.checks import is_whole
from loosemirrors.errors import BadNames, BadNumber
from loosemirrors.kinds import do_the_same
from loosemirrors.plans import move_by
from loosemirrors.reaches import in_sequence, number_of, reach_of
from loosemirrors.scripts import Script

MOST_NAMES = 4
MOST_IN_LEAST = 6
# Half of these.
HALF = 3


def nothings(book, names, most):
    """All scripts of one to most steps that do nothing, but no part of which does."""
    check_names(book, names)
    if not is_whole(most) or most < 1 or most > MOST_IN_LEAST:
        raise BadNumber(most)
    # A row that comes back is never further away than half of its steps.
    reach = reach_of(book.plan, names, move_by(book.plan, ()), (most + 1) // 2)
    return tuple([Script(" ".join(row)) for row in rounds(reach, names, most)])


def shortest(book, names, script):
    """A script of these names that does the same with as few steps as can be."""
    check_names(book, names)
    row = least_row(book, names, steps_in(book, script))
    return ("none",) if row is None else ("row", Script(" ".join(row)))


def shows_shortest(book, names, script, value):
    """Whether a value tells rightly a shortest script of these names that does the same."""
    check_names(book, names)
    steps = steps_in(book, script)
    least = least_row(book, names, steps)
    if not isinstance(value, tuple):
        return False
    if len(value) == 1:
        return value[0] == "none" and least is None
    if len(value) != 2 or value[0] != "row" or not isinstance(value[1], Script) or least is None:
        return False
    row = value[1].steps
    return len(row) == len(least) and all([name in names for name in row]) and do_the_same(book, row, steps)


def check_names(book, names):
    """Refuses all but a tuple of one to four unlike names of the book, in sequence."""
    if not isinstance(names, tuple) or len(names) < 1 or len(names) > MOST_NAMES:
        raise BadNames(names)
    if not all([name in book.names for name in names]):
        raise BadNames(names)
    places = [book.names.index(name) for name in names]
    if not all([place < behind for place, behind in zip(places, places[1:])]):
        raise BadNames(names)


def rounds(reach, names, most):
    """All rows of at most so many steps that come back to the first move, and to none twice ahead of it."""
    ordered = in_sequence(names)
    found = []
    paths = [((), (0,))]
    for _ in range(most):
        longer = []
        for row, numbers in paths:
            for name in ordered:
                # Where no way is told, it leads too far away to come back in time.
                end = reach.ways[numbers[-1]].get(name)
                if end == 0:
                    found.append(row + (name,))
                elif end is not None and end not in numbers:
                    longer.append((row + (name,), numbers + (end,)))
        paths = longer
    return found


def least_row(book, names, steps):
    """A row of these names that does the same as steps, with as few as can be; None if six are too few."""
    # What one half of the row leads to from the start, the other half, backwards, leads to from the end.
    there = reach_of(book.plan, names, move_by(book.plan, ()), HALF)
    back = reach_of(book.plan, names, move_by(book.plan, steps), HALF)
    least = None
    for move, behind in zip(back.moves, back.rows):
        number = number_of(there, move)
        if number is not None:
            row = there.rows[number] + behind[::-1]
            if least is None or len(row) < len(least):
                least = row
    return least
