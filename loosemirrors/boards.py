"""Boards: somebody works at a drawing, deed by deed."""

from loosemirrors.checks import is_whole
from loosemirrors.claims import is_always
from loosemirrors.drawings import Drawing
from loosemirrors.errors import BadDot, BadRows, Full, NoDot, NoName, NothingToRedo, NothingToUndo, NoTrial
from loosemirrors.kinds import word_for
from loosemirrors.scripts import Script
from loosemirrors.spots import dot_of, is_dot, spot_of
from loosemirrors.trials import Trial

MOST_DOTS = 8


class Board:
    """A drawing, the row of the steps that were done in it, and dots that these led.

    Of all deeds, the first ones stand, as many as done tells; the others were
    taken back. A moment is what was there ahead of a deed, or behind the last one.
    """

    def __init__(self, drawing):
        self.first = drawing
        self.drawing = drawing
        self.row = Script("")
        self.dots = ()
        self.done = 0
        self.deeds = ()
        self.moments = ((self.drawing, self.row, self.dots),)
        self.inner = None

    def put(self, dot):
        """A dot more."""
        if not is_dot(dot):
            raise BadDot(dot)
        if len(self.dots) == MOST_DOTS:
            raise Full(MOST_DOTS)
        told = dot_of(spot_of(dot))
        self._did(("put", told), self.drawing, self.row, self.dots + (told,))

    def step(self, name):
        """All dots are led by one step, which comes to the row."""
        if name not in self.drawing.book.names:
            raise NoName(name)
        script = Script(name)
        # This is Long for a row that has all steps that a Script may have.
        row = self.row * script
        dots = tuple([self.drawing.led(script, dot) for dot in self.dots])
        self._did(("step", name), self.drawing, row, dots)

    def lay(self, line, row):
        """A line more, and the row of what it tells."""
        book = self.drawing.book.told(line)
        try:
            drawing = Drawing(book, self.drawing.rows + (row,))
        except BadRows:
            raise BadRows(row) from None
        self._did(("lay", line, drawing.rows[-1]), drawing, self.row, self.dots)

    def wipe(self, number):
        """The dots without the one of this number."""
        if not is_whole(number) or number < 0 or number >= len(self.dots):
            raise NoDot(number)
        dots = self.dots[:number] + self.dots[number + 1:]
        self._did(("wipe", number), self.drawing, self.row, dots)

    def kind(self):
        """The word of what the row does by the book as it is now."""
        return word_for(self.drawing.book, self.row.steps)

    def judged(self, claim):
        """Whether a claim is always so by the book as it is now, or not: the word."""
        return "always" if is_always(self.drawing.book, claim) else "not"

    def undo(self):
        """Takes the last deed back that stands."""
        if self.done == 0:
            raise NothingToUndo(None)
        self._go(self.done - 1)

    def redo(self):
        """Does the deed again that was taken back last."""
        if self.done == len(self.deeds):
            raise NothingToRedo(None)
        self._go(self.done + 1)

    def trial(self):
        """A block behind which the board is as it was ahead of it, if it is not kept."""
        return Trial(self)

    def keep(self):
        """What was done in the innermost block is to stay."""
        inner = self.inner
        if inner is None:
            raise NoTrial(None)
        inner.kept = True

    def tried(self, look, *, keep=False):
        """What look returns for the board, called within a block."""
        with self.trial():
            found = look(self)
            if keep is True:
                self.keep()
        return found

    def copy(self):
        """An independent board, alike in all things, outside of all blocks."""
        board = Board(self.first)
        board.deeds = self.deeds
        board.moments = self.moments
        board._go(self.done)
        return board

    def __len__(self):
        return len(self.dots)

    def __contains__(self, value):
        return value in self.dots

    def __eq__(self, other):
        # A journal tells the first drawing and the deeds that stand, and each of them in one way.
        return (isinstance(other, Board) and self.first == other.first
                and self.deeds[:self.done] == other.deeds[:other.done])

    def _did(self, deed, drawing, row, dots):
        """A deed comes behind those that stand; those that were taken back are no more."""
        self.deeds = self.deeds[:self.done] + (deed,)
        self.moments = self.moments[:self.done + 1] + ((drawing, row, dots),)
        self._go(self.done + 1)

    def _go(self, done):
        """So many of the deeds stand now."""
        self.done = done
        self.drawing, self.row, self.dots = self.moments[done]
