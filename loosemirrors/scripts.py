"""Scripts: rows of names."""

from loosemirrors.checks import is_name, is_whole
from loosemirrors.errors import BadNumber, BadScript, Long

MOST_STEPS = 24


class Script:
    """A row of none to 24 names, told by its text."""

    def __init__(self, text):
        if not is_row(text):
            raise BadScript(text)
        self.text = text
        self.steps = names_of(text)
        left_over = struck_out(self.steps)
        # A script without such neighbours is its own plain one, or there would be no end to it.
        self.plain = self if len(left_over) == len(self.steps) else Script(" ".join(left_over))

    def times(self, many):
        """The steps so many times in turn."""
        if not is_whole(many) or many < 0 or many > MOST_STEPS:
            raise BadNumber(many)
        if len(self.steps) * many > MOST_STEPS:
            raise Long(MOST_STEPS)
        return Script(" ".join(self.steps * many))

    def __len__(self):
        return len(self.steps)

    def __repr__(self):
        return f"Script('{self.text}')"

    def __eq__(self, other):
        return isinstance(other, Script) and self.text == other.text

    def __mul__(self, other):
        if not isinstance(other, Script):
            return NotImplemented
        if len(self.steps) + len(other.steps) > MOST_STEPS:
            raise Long(MOST_STEPS)
        return Script(" ".join(self.steps + other.steps))

    def __invert__(self):
        return Script(" ".join(self.steps[::-1]))


def is_row(text):
    """Whether a value is the text of a script."""
    if not isinstance(text, str):
        return False
    names = names_of(text)
    return len(names) <= MOST_STEPS and all([is_name(name) for name in names])


def names_of(text):
    """The words of a text that are parted by one blank; none of the empty text."""
    return tuple(text.split(" ")) if text else ()


def struck_out(steps):
    """The steps without neighbours of one name, struck out until there are none."""
    kept = []
    for name in steps:
        if kept and kept[-1] == name:
            kept.pop()
        else:
            kept.append(name)
    return kept
