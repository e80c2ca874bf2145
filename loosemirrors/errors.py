"""The errors of the package: MirrorError, and all others directly below it."""


class MirrorError(ValueError):
    """Any error of the package; it keeps its only argument as value."""

    def __init__(self, value):
        self.value = value


class BadRatio(MirrorError):
    """What is handed in makes no Ratio."""


class BadText(MirrorError):
    """Not the text of a Ratio."""


class BadBook(MirrorError):
    """The line of this number cannot stand in a book."""


class NoName(MirrorError):
    """Not a name of the book."""


class BadLine(MirrorError):
    """No line that can stand behind those of the book."""


class Used(MirrorError):
    """Another line tells something by this name."""


class Few(MirrorError):
    """The book has too few lines."""


class BadRows(MirrorError):
    """Not rows of what the book tells."""


class BadScript(MirrorError):
    """Not a Script, or not the text of one."""


class BadDot(MirrorError):
    """Not a dot."""


class Long(MirrorError):
    """More steps than a Script may have."""


class BadNumber(MirrorError):
    """Not an integer of those that are asked for."""


class OtherBook(MirrorError):
    """It belongs to an unlike book."""


class BadClaim(MirrorError):
    """Not a claim of the book."""


class BadNames(MirrorError):
    """Not such names of the book as are asked for."""


class BadLooks(MirrorError):
    """Not looks."""


class Nothing(MirrorError):
    """No class of rows is left."""


class Loose(MirrorError):
    """This name's line has two words already."""


class Needed(MirrorError):
    """Without this name's line the lines are no book."""


class NotSure(MirrorError):
    """The claim is not always so."""


class BadOffers(MirrorError):
    """Not offers."""


class BadWishes(MirrorError):
    """Not wishes."""


class Full(MirrorError):
    """The board has as many dots as it may have."""


class NoDot(MirrorError):
    """Not the number of a dot."""


class NothingToUndo(MirrorError):
    """No deed stands that could be taken back."""


class NothingToRedo(MirrorError):
    """No deed was taken back that could be done again."""


class NoTrial(MirrorError):
    """There is no block of a trial here."""


class BadJournal(MirrorError):
    """The line of this number is wrong in a journal."""


class BadSay(MirrorError):
    """Not a line that a desk takes."""
