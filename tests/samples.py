"""Values of every kind that a caller may hand in."""

from loosemirrors.books import Book
from loosemirrors.drawings import Drawing
from loosemirrors.errors import MirrorError
from loosemirrors.motions import table
from loosemirrors.ratios import Ratio
from loosemirrors.scripts import Script

LONG = 10 ** 400 + 7


def nested(deep):
    """Tuples, lists and dicts in one another, so deep."""
    value = 1
    for level in range(deep):
        value = ((value,), [value], {"a": value})[level % 3]
    return value


def all_values():
    """Values of every kind, new ones at each call."""
    return [
        0, 1, -1, 2, 25, LONG, -LONG, True, False, None,
        "", "a", "a b", "3", "no name", "\n", (), (1,), (1, 2), (True, None), [], [1, "a"], {}, {"a": [1]}, {1: None},
        Ratio(0), Ratio(1), Ratio(-1, 2), Script(""), Script("a b"), MirrorError(1), nested(30),
        Book("peg p"), Drawing(Book("peg p"), ((0, 1),)), table(Book("mirror a"), Script("a")), ("same",),
        ("nothing", 1),
    ]


def no_numbers():
    """Values of every kind that are no numbers."""
    return [value for value in all_values() if type(value) not in (int, Ratio)]


def no_strings():
    """Values of every kind that are no strings."""
    return [value for value in all_values() if not isinstance(value, str)]


class Strange:
    """An object of no class of the package, which has no operators."""
