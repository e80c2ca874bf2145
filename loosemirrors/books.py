"""Books: how mirrors and pegs hang together."""

from loosemirrors.errors import BadBook, BadLine, BadScript, Few, NoName, Used
from loosemirrors.lines import fitting_lines
from loosemirrors.plans import plan_of
from loosemirrors.scripts import Script


class Book:
    """One to twelve lines, each of which tells a mirror or a peg by those ahead of it."""

    def __init__(self, text):
        if not isinstance(text, str):
            raise BadBook(0)
        texts = text.split("\n")
        lines = fitting_lines(texts)
        plan = plan_of(lines)
        # The plan ends ahead of the first line that cannot stand.
        if len(plan.moves) < len(texts):
            raise BadBook(len(plan.moves) + 1)
        self.text = text
        self.names = tuple([line.name for line in lines])
        self.mirrors = tuple([line.name for line in lines if line.word == "mirror"])
        self.pegs = tuple([line.name for line in lines if line.word == "peg"])
        self.loose = plan.loose
        self.lines = tuple(lines)
        self.plan = plan

    def told(self, line):
        """The Book with this line behind the others."""
        if not isinstance(line, str) or "\n" in line:
            raise BadLine(line)
        try:
            return Book(f"{self.text}\n{line}")
        except BadBook:
            raise BadLine(line) from None

    def without(self, name):
        """The Book without the line of this name."""
        if name not in self.names:
            raise NoName(name)
        if any([name in line.others for line in self.lines]):
            raise Used(name)
        if len(self.lines) == 1:
            raise Few(1)
        return Book("\n".join([line.text for line in self.lines if line.name != name]))

    def __len__(self):
        return len(self.lines)

    def __contains__(self, value):
        return value in self.names

    def __getitem__(self, name):
        if name not in self.names:
            raise NoName(name)
        return self.lines[self.names.index(name)].text

    def __iter__(self):
        raise TypeError("a Book is not gone over: take its names")

    def __eq__(self, other):
        return isinstance(other, Book) and self.text == other.text


def steps_in(book, script):
    """The steps of a Script of names of the book."""
    if not isinstance(script, Script) or not all([name in book.names for name in script.steps]):
        raise BadScript(script)
    return script.steps
