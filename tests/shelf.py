"""Books of all forms for tests, and rows of their names."""

import random

from loosemirrors.books import Book
from loosemirrors.errors import BadLine
from loosemirrors.scripts import Script

CROSS = "peg p\nmirror a through p\nmirror b across a through p\nmirror c through p"
TWO = "mirror a\nmirror b"
KITE = "mirror a\npeg p\npeg q from p in a\npeg r on a\npeg s amid p q"

# Each form of line behind such lines as it needs: in each book the last one is of the form.
FORMS = {
    "mirror NAME": "mirror z",
    "mirror NAME through P": "peg p\nmirror z through p",
    "mirror NAME along A through P": "mirror a\npeg p\nmirror z along a through p",
    "mirror NAME across A through P": "mirror a\npeg p\nmirror z across a through p",
    "mirror NAME from A in B": "mirror a\nmirror b\nmirror z from a in b",
    "mirror NAME is ROW": "mirror a\nmirror b\nmirror z is a b a",
    "peg NAME": "peg z",
    "peg NAME on A": "mirror a\npeg z on a",
    "peg NAME from P in A": "mirror a\npeg p\npeg z from p in a",
    "peg NAME from P about Q": "peg p\npeg q\npeg z from p about q",
    "peg NAME amid P Q": "peg p\npeg q\npeg z amid p q",
    "peg NAME is ROW": "peg p\nmirror a through p\nmirror b across a through p\npeg z is b a",
}

# Twelve lines; five loose mirrors or five pegs; three lines of the forms of which there may be three.
GREATEST = (
    "mirror a\nmirror b\nmirror c\nmirror d\nmirror e\npeg p on a\npeg q on b\npeg r amid p q\n"
    "mirror f across a through r\nmirror g is a b c b a\nmirror h is d e g e d\nmirror i is h g d g h",
    "peg p\nmirror a through p\nmirror b\nmirror c\nmirror d\nmirror e\npeg q on b\npeg r amid p q\n"
    "peg s amid r q\nmirror g is a b a b a\nmirror h is g b g b g\nmirror i is h g h g h",
    "mirror a\npeg p on a\npeg q\nmirror b through q\nmirror c through p\nmirror d\nmirror e\npeg r amid p q\n"
    "peg s amid q r\nmirror f from b in c\npeg t from s in f\npeg u is t s r",
    "peg p\npeg q\nmirror a through p\nmirror b through q\nmirror c\npeg r on c\nmirror d through r\n"
    "mirror e along a through q\npeg s from p about r\npeg t from s in d\nmirror g is b q b q b\nmirror f through t",
)

NAMES = "abcdefghijkl"


def any_line(name, mirrors, pegs, chance):
    """Any line that tells this name by some of these; it need not be one that can stand."""
    one, other = (chance.sample(mirrors, 2) if len(mirrors) > 1 else ("a", "b"))
    peg, more = (chance.sample(pegs, 2) if len(pegs) > 1 else (pegs + ["p", "q"])[:2])
    around = [chance.choice(mirrors + pegs) for _ in range(chance.randint(0, 2))] if mirrors + pegs else []
    row = " ".join(around + [chance.choice((one, peg))] + around[::-1])
    return chance.choice((
        f"mirror {name}", f"mirror {name} through {peg}", f"mirror {name} along {one} through {peg}",
        f"mirror {name} across {one} through {peg}", f"mirror {name} from {one} in {other}", f"mirror {name} is {row}",
        f"peg {name}", f"peg {name} on {one}", f"peg {name} from {peg} in {one}", f"peg {name} from {peg} about {more}",
        f"peg {name} amid {peg} {more}", f"peg {name} is {row}", f"mirror {name} is {one} {other} {one}",
        f"peg {name} is {peg} {more} {peg}",
    ))


def any_book(seed, lines=12, tries=60):
    """Any Book of at most so many lines, another one for each seed."""
    chance = random.Random(seed)
    book = Book(chance.choice(("mirror a", "peg a")))
    for _ in range(tries):
        if len(book) == lines:
            break
        line = any_line(NAMES[len(book)], list(book.mirrors), list(book.pegs), chance)
        try:
            book = book.told(line)
        except BadLine:
            continue
    return book


def any_row(book, seed, most=24):
    """Any Script of names of the book."""
    chance = random.Random(seed)
    return Script(" ".join(chance.choice(book.names) for _ in range(chance.randint(0, most))))


def any_claim(book, chance):
    """Any claim of the book by its names; None where it has too few of these for what chance asks for."""
    name = chance.choice(book.names)
    mirrors = [other for other in book.mirrors if other != name]
    pegs = [other for other in book.pegs if other != name]
    if chance.random() < 0.2 and len(book.pegs) > 1:
        return "even " + " ".join(chance.sample(book.pegs, 2) + chance.sample(book.pegs, 2))
    row = " ".join(chance.choice(book.names) for _ in range(chance.randint(1, 6)))
    word = "mirror" if name in book.mirrors else "peg"
    forms = ["is"] if len(mirrors) < 2 or len(pegs) < 2 else ["is", "", "", ""]
    if chance.choice(forms) == "is":
        return f"{word} {name} is {row}"
    one, other = chance.sample(mirrors, 2)
    peg, more = chance.sample(pegs, 2)
    rest = {"mirror": (f"through {peg}", f"along {one} through {peg}", f"across {one} through {peg}",
                       f"from {one} in {other}"),
            "peg": (f"on {one}", f"from {peg} in {one}", f"from {peg} about {more}", f"amid {peg} {more}")}
    return f"{word} {name} {chance.choice(rest[word])}"
