"""Lines that are needed for what is always so."""

from loosemirrors.books import Book
from loosemirrors.claims import is_always
from loosemirrors.errors import BadBook, Loose, Needed, NoName, NotSure


def loosened(book, name):
    """The Book in which the line of this name tells less."""
    if name not in book.names:
        raise NoName(name)
    if line_for(book, name).form == "any":
        raise Loose(name)
    looser = looser_book(book, name)
    if looser is None:
        raise Needed(name)
    return looser


def needed(book, claim):
    """The names of the lines of more than two words none of which can be loosened with the claim always so still."""
    check_sure(book, claim)
    hanging = [line.name for line in book.lines if line.form != "any"]
    return tuple([name for name in hanging if sure_without(book, name, claim) is None])


def core(book, claim):
    """The Book in which each line, from the last to the first one, tells as little as the claim needs."""
    check_sure(book, claim)
    for name in book.names[::-1]:
        looser = sure_without(book, name, claim)
        while looser is not None:
            book = looser
            looser = sure_without(book, name, claim)
    return book


def check_sure(book, claim):
    """Refuses what is no claim, and a claim that is not always so."""
    if not is_always(book, claim):
        raise NotSure(claim)


def sure_without(book, name, claim):
    """The Book with the line of this name loosened; None if there is none, or the claim is not always so in it."""
    looser = looser_book(book, name)
    return looser if looser is not None and is_always(looser, claim) else None


def looser_book(book, name):
    """The Book with the line of this name loosened; None if that cannot be."""
    if line_for(book, name).form == "any":
        return None
    return book_with(book, {name: looser_text(line_for(book, name))})


def line_for(book, name):
    """The line of the book that tells this name."""
    return book.lines[book.names.index(name)]


def looser_text(line):
    """The text of a line, loosened."""
    if line.form == "along" or line.form == "across":
        return f"mirror {line.name} through {line.others[1]}"
    return f"{line.word} {line.name}"


def book_with(book, texts):
    """The Book with these texts, by names, in the place of the lines of these names; None if they are no book."""
    lines = [texts.get(line.name, line.text) for line in book.lines]
    try:
        return Book("\n".join(lines))
    except BadBook:
        return None
