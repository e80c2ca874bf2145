"""Claims: how mirrors and pegs of a book may hang together beyond what its lines say."""

from loosemirrors.drawings import drawn
from loosemirrors.errors import BadClaim
from loosemirrors.evens import Even
from loosemirrors.kinds import is_drawing_of
from loosemirrors.leads import is_told
from loosemirrors.lines import has_names, line_of
from loosemirrors.plans import move_by


class Hang:
    """The claim that the name of a line, which the book tells by another one, is what this line says."""

    def __init__(self, line):
        self.line = line

    def is_sure(self, plan):
        """Whether it is so in all drawings of what a plan tells."""
        line = self.line
        own = plan.moves[line.name]
        if line.row:
            return own == move_by(plan, line.row)
        if line.form == "on":
            return leads_to(plan, line.others[0], line.name, line.name)
        if line.form == "amid":
            return leads_to(plan, line.name, line.others[0], line.others[1])
        if line.form == "along" and not is_like(own, plan.moves[line.others[0]], 1):
            return False
        if line.form == "across" and not is_like(own, plan.moves[line.others[0]], -1):
            return False
        return leads_to(plan, line.name, line.others[-1], line.others[-1])

    def is_so(self, leads):
        """Whether it is so in the drawing with these leads."""
        return is_told(self.line, leads[self.line.name], leads)


def leads_to(plan, name, peg, end):
    """Whether a mirror, or a peg, always leads one peg to where another one stands."""
    return move_by(plan, (name, peg, name)) == plan.moves[end]


def is_like(move, other, sign):
    """Whether a mirror turns as another one does, or, by the sign -1, as one at right angles to it."""
    return move.sign == sign * other.sign and move.powers == other.powers


def claim_of(book, claim):
    """The claim of this text."""
    if not isinstance(claim, str):
        raise BadClaim(claim)
    found = even_of(book, claim.split(" ")) if claim.startswith("even ") else hang_of(book, claim)
    if found is None:
        raise BadClaim(claim)
    return found


def even_of(book, words):
    """The claim of the words `even P Q R S`; None if they are none."""
    pegs = tuple(words[1:])
    if len(pegs) != 4 or not all([name in book.pegs for name in pegs]):
        return None
    return Even(pegs) if pegs[0] != pegs[1] and pegs[2] != pegs[3] else None


def hang_of(book, text):
    """The claim of the text of a line; None if it is none."""
    line = line_of(text)
    if line is None or line.form == "any":
        return None
    known = {own.name: own.word for own in book.lines}
    if known.get(line.name) != line.word or not has_names(line, known):
        return None
    # NAME may stand in a ROW alone.
    return Hang(line) if line.form == "is" or line.name not in line.others else None


def is_always(book, claim):
    """Whether a claim of the book is so in all drawings."""
    return claim_of(book, claim).is_sure(book.plan)


def judged(book, claim):
    """Whether a claim is so in all drawings; otherwise a drawing in which it is not."""
    found = claim_of(book, claim)
    if found.is_sure(book.plan):
        return ("always",)
    trial = 0
    while found.is_so(drawn(book, trial).leads):
        trial += 1
    return "not", drawn(book, trial)


def shows_judged(book, claim, value):
    """Whether a value tells rightly whether a claim is so in all drawings."""
    found = claim_of(book, claim)
    if not isinstance(value, tuple):
        return False
    if len(value) == 1:
        return value[0] == "always" and found.is_sure(book.plan)
    if len(value) != 2 or value[0] != "not" or not is_drawing_of(book, value[1]):
        return False
    return not found.is_so(value[1].leads)
