"""Traces: what spots and leads leave when their numbers are divided by a prime.

Spots that leave unlike traces are unlike ones. Traces are found by small numbers,
however many figures the spots have: so they tell most of these apart at little cost.
"""

from loosemirrors.leads import Lead, led_by
from loosemirrors.spots import Spot

PRIME = 2305843009213693951


def trace_of(spot):
    """The trace of a spot, a spot of small whole numbers; None for a spot that leaves none."""
    if spot.under % PRIME == 0:
        return None
    share = contrary_of(spot.under % PRIME)
    return Spot(spot.x * share % PRIME, spot.y * share % PRIME)


def contrary_of(number):
    """The number that, multiplied by this one, leaves 1."""
    # By Fermat: it is this one, PRIME - 2 times by itself.
    many = PRIME - 2
    power = 1
    while many > 0:
        if many & 1:
            power = power * number % PRIME
        number = number * number % PRIME
        many = many // 2
    return power


def traces_in(drawing, names):
    """Of each of these names what its lead leaves; None for one that leaves nothing."""
    return {name: lead_trace(drawing.leads[name]) for name in names}


def lead_trace(lead):
    """The lead that leads traces as a lead leads spots; None if there is none."""
    spin, shift = trace_of(lead.spin), trace_of(lead.shift)
    return None if spin is None or shift is None else Lead(lead.over, spin, shift)


def trace_led(traces, row, trace):
    """The trace of where a row leads a spot with this trace; None if that is not known."""
    for name in row:
        if trace is None or traces[name] is None:
            return None
        trace = trace_of(led_by(traces[name], trace))
    return trace
