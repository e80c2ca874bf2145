"""Looks: which hidden rows can have led dots to where they came."""

from loosemirrors.checks import is_whole
from loosemirrors.drawings import drawn
from loosemirrors.errors import BadLooks, BadNumber, Nothing
from loosemirrors.kinds import is_drawing_of
from loosemirrors.leads import led_by
from loosemirrors.least import check_names
from loosemirrors.placing import grown
from loosemirrors.plans import move_by
from loosemirrors.reaches import end_of, reach_of, rows_of
from loosemirrors.scripts import Script
from loosemirrors.spots import Spot, dot_of, is_dot, spot_of
from loosemirrors.traces import trace_led, trace_of, traces_in

MOST_HIDDEN = 4
MOST_LOOKS = 8

# Primes for where a dot is, unlike those by which drawings are placed.
DOT = (113, 127)


def left(book, names, most, looks):
    """All scripts that can be the hidden row by all looks, those together that do the same."""
    check(book, names, most, looks)
    return tuple([tuple([Script(" ".join(row)) for row in rows]) for rows in classes(book, names, most, looks)])


def look(book, names, most, looks):
    """A drawing and a dot by which it is known which class the hidden row is of."""
    rows = rows_apart(book, names, most, looks)
    trial = 0
    while not are_parted(drawn(book, trial), spot_at(trial), rows):
        trial += 1
    return drawn(book, trial), dot_of(spot_at(trial))


def shows_look(book, names, most, looks, value):
    """Whether a value is a drawing and a dot by which it is known which class the hidden row is of."""
    rows = rows_apart(book, names, most, looks)
    if not isinstance(value, tuple) or len(value) != 2:
        return False
    if not is_drawing_of(book, value[0]) or not is_dot(value[1]):
        return False
    return are_parted(value[0], spot_of(value[1]), rows)


def check(book, names, most, looks):
    """Refuses what no hidden row can be told by."""
    check_names(book, names)
    if not is_whole(most) or most < 0 or most > MOST_HIDDEN:
        raise BadNumber(most)
    if not isinstance(looks, tuple) or len(looks) > MOST_LOOKS:
        raise BadLooks(looks)
    if not all([is_look(book, seen) for seen in looks]):
        raise BadLooks(looks)


def is_look(book, value):
    """Whether a value is a look: a drawing of the book, a dot, and the dot to which it was led."""
    if not isinstance(value, tuple) or len(value) != 3:
        return False
    return is_drawing_of(book, value[0]) and is_dot(value[1]) and is_dot(value[2])


def classes(book, names, most, looks):
    """All rows that can be the hidden one, in lists of those that do the same."""
    reach = reach_of(book.plan, names, move_by(book.plan, ()), most)
    # One row tells of all that do the same.
    rows = reach.rows
    for drawing, dot, end in looks:
        rows = rows_to(drawing, rows, spot_of(dot), spot_of(end))
    numbers = [end_of(reach, row) for row in rows]
    found = {}
    for row in rows_of(names, most):
        number = end_of(reach, row)
        if number in numbers:
            found.setdefault(number, []).append(row)
    return list(found.values())


def rows_to(drawing, rows, spot, end):
    """Those of the rows that lead a spot to an end in a drawing."""
    groups = by_traces(drawing, rows, spot)
    # Where a row leaves no trace, only its end itself tells.
    fitting = groups.get(None, [])
    key = key_of(trace_of(end))
    if key is not None:
        fitting = fitting + groups.get(key, [])
    return [row for row in fitting if end_in(drawing, row, spot) == end]


def rows_apart(book, names, most, looks):
    """The first row of each class of those that can be the hidden one."""
    check(book, names, most, looks)
    rows = [rows[0] for rows in classes(book, names, most, looks)]
    if not rows:
        raise Nothing(None)
    return rows


def spot_at(trial):
    """A spot, another one for each trial from 0."""
    return Spot(grown(DOT[0], trial), grown(DOT[1], trial))


def end_in(drawing, row, spot):
    """Where a row leads a spot in a drawing."""
    for name in row:
        spot = led_by(drawing.leads[name], spot)
    return spot


def are_parted(drawing, spot, rows):
    """Whether no two rows lead a spot to one and the same in a drawing."""
    groups = by_traces(drawing, rows, spot)
    # A row that leaves no trace may lead to where any other one does.
    if None in groups:
        return are_apart(drawing, spot, rows)
    return all([are_apart(drawing, spot, group) for group in groups.values()])


def are_apart(drawing, spot, rows):
    """Whether no two rows that may do so lead a spot to one and the same."""
    if len(rows) == 1:
        return True
    ends = [end_in(drawing, row, spot) for row in rows]
    return len(set([(end.x, end.y, end.under) for end in ends])) == len(rows)


def by_traces(drawing, rows, spot):
    """Rows by the traces that they lead a spot to."""
    traces = traces_in(drawing, drawing.book.names)
    start = trace_of(spot)
    groups = {}
    for row in rows:
        groups.setdefault(key_of(trace_led(traces, row, start)), []).append(row)
    return groups


def key_of(trace):
    """What a trace is found by."""
    return None if trace is None else (trace.x, trace.y)
