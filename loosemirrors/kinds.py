"""What rows do: of which kind they are, and whether two of them do the same."""

from loosemirrors.books import steps_in
from loosemirrors.drawings import Drawing, drawn, lead_by
from loosemirrors.leads import kind_of_lead, led_by
from loosemirrors.moves import kind_of
from loosemirrors.plans import move_by
from loosemirrors.spots import Spot, dot_of, is_dot, spot_of


def kind(book, script):
    """The kind of a script in all drawings but those in which it is of a lesser one, and a drawing of it."""
    steps = steps_in(book, script)
    word = word_for(book, steps)
    trial = 0
    drawing = drawn(book, trial)
    while kind_of_lead(lead_by(drawing, steps)) != word:
        trial += 1
        drawing = drawn(book, trial)
    return word, drawing


def shows_kind(book, script, value):
    """Whether a value tells the kind of a script and a drawing in which it is of this kind."""
    steps = steps_in(book, script)
    if not isinstance(value, tuple) or len(value) != 2 or not is_drawing_of(book, value[1]):
        return False
    word = word_for(book, steps)
    return value[0] == word and kind_of_lead(lead_by(value[1], steps)) == word


def same(book, one, other):
    """Whether two scripts do the same in all drawings; otherwise a drawing and a dot that show it."""
    steps, others = steps_in(book, one), steps_in(book, other)
    if do_the_same(book, steps, others):
        return ("same",)
    trial = 0
    drawing = drawn(book, trial)
    while lead_by(drawing, steps) == lead_by(drawing, others):
        trial += 1
        drawing = drawn(book, trial)
    return "apart", drawing, dot_apart(lead_by(drawing, steps), lead_by(drawing, others))


def shows_same(book, one, other, value):
    """Whether a value tells rightly whether two scripts do the same."""
    steps, others = steps_in(book, one), steps_in(book, other)
    if not isinstance(value, tuple):
        return False
    if len(value) == 1:
        return value[0] == "same" and do_the_same(book, steps, others)
    if len(value) != 3 or value[0] != "apart" or not is_drawing_of(book, value[1]) or not is_dot(value[2]):
        return False
    spot = spot_of(value[2])
    return led_by(lead_by(value[1], steps), spot) != led_by(lead_by(value[1], others), spot)


def word_for(book, steps):
    """The kind of a row of names in all drawings but those in which it is of a lesser one."""
    return kind_of(move_by(book.plan, steps), book.plan.flips)


def do_the_same(book, steps, others):
    """Whether two rows of names do the same in all drawings."""
    return move_by(book.plan, steps) == move_by(book.plan, others)


def dot_apart(lead, other):
    """A dot that two unlike leads lead to unlike dots."""
    # What leads three dots alike that lie in no line leads all alike.
    for spot in (Spot(0, 0), Spot(1, 0)):
        if led_by(lead, spot) != led_by(other, spot):
            return dot_of(spot)
    return dot_of(Spot(0, 1))


def is_drawing_of(book, value):
    """Whether a value is a Drawing of the book."""
    return isinstance(value, Drawing) and value.book == book
