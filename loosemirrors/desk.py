"""Desks: boards that are worked at by lines of text."""

from loosemirrors.deeds import deed_of, do
from loosemirrors.errors import BadSay
from loosemirrors.journals import read_journal


class Desk:
    """The board of a journal, and what it answers."""

    def __init__(self, text):
        self.board = read_journal(text)

    def say(self, line):
        """Does what a line tells, or answers what it asks for."""
        if not isinstance(line, str) or "\n" in line:
            raise BadSay(line)
        deed = deed_of(line)
        if deed is not None:
            do(self.board, deed)
            return "ok"
        claim = claim_in(line)
        if claim:
            return self.board.judged(claim)
        return said(self.board, line)


def claim_in(line):
    """The claim in the line `judge CLAIM`; the empty string if it is no such line."""
    words = line.split(" ")
    return " ".join(words[1:]) if words[0] == "judge" and "" not in words else ""


def said(board, line):
    """The answer to a line of one word."""
    if line == "undo":
        board.undo()
        return "ok"
    if line == "redo":
        board.redo()
        return "ok"
    if line == "dots":
        return " ".join([f"{x.text},{y.text}" for x, y in board.dots])
    if line == "row":
        return board.row.text
    if line == "kind":
        return board.kind()
    raise BadSay(line)
