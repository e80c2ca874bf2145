"""Journals: what was done on a board, line by line."""

from loosemirrors.boards import Board
from loosemirrors.books import Book
from loosemirrors.deeds import deed_of, do, ratios_of, text_of_deed, texts_of
from loosemirrors.drawings import Drawing, leads_of
from loosemirrors.errors import BadBook, BadJournal, MirrorError


def journal(board):
    """The text of the first drawing and of all deeds that stand."""
    book = board.first.book
    rows = [f"row {name} {texts_of(row)}" for name, row in zip(book.names, board.first.rows)]
    deeds = [text_of_deed(deed) for deed in board.deeds[:board.done]]
    return "\n".join([book.text, *rows, "deeds", *deeds])


def read_journal(text):
    """The Board on which was done what a journal tells."""
    if not isinstance(text, str):
        raise BadJournal(0)
    lines = text.split("\n")
    many = lines_of_book(lines)
    book = read_book(lines[:many])
    drawing = read_drawing(book, lines, many)
    start = many + len(book)
    if start == len(lines) or lines[start] != "deeds":
        raise BadJournal(start + 1)
    board = Board(drawing)
    for at in range(start + 1, len(lines)):
        read_deed(board, lines[at], at + 1)
    return board


def lines_of_book(lines):
    """How many lines stand ahead of the first one that is none of a book."""
    for at, line in enumerate(lines):
        if line.startswith("row ") or line == "deeds":
            return at
    return len(lines)


def read_book(lines):
    """The Book of the first lines."""
    try:
        return Book("\n".join(lines))
    except BadBook as wrong:
        raise BadJournal(wrong.value) from None


def read_drawing(book, lines, start):
    """The Drawing of the lines of rows, which begin behind so many lines."""
    rows = []
    for name, line in zip(book.names, lines[start:]):
        row = row_in(line, name)
        if row is None:
            break
        rows.append(row)
    right = len(leads_of(book, rows))
    if right < len(book):
        raise BadJournal(start + right + 1)
    return Drawing(book, tuple(rows))


def row_in(line, name):
    """The row of numbers in the line of this name; None if it is no such line."""
    words = line.split(" ")
    return ratios_of(words[2:]) if words[:2] == ["row", name] else None


def read_deed(board, line, number):
    """Does at a board what the line of this number tells."""
    deed = deed_of(line)
    if deed is None:
        raise BadJournal(number)
    try:
        do(board, deed)
    except MirrorError:
        raise BadJournal(number) from None
