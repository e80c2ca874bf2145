"""Deeds of boards, as lines of journals and desks tell them.

A deed is a tuple: ("put", dot), ("step", name), ("lay", line, row) or ("wipe", number).
"""

from loosemirrors.errors import BadText
from loosemirrors.ratios import Ratio


def text_of_deed(deed):
    """The line of a deed."""
    if deed[0] == "put":
        return f"put {texts_of(deed[1])}"
    if deed[0] == "lay":
        return f"lay {texts_of(deed[2])} as {deed[1]}"
    return f"{deed[0]} {deed[1]}"


def texts_of(numbers):
    """The texts of Ratios, parted by blanks."""
    return " ".join([number.text for number in numbers])


def deed_of(line):
    """The deed of a line; None if it has none of their forms."""
    words = line.split(" ")
    if "" in words:
        return None
    if words[0] == "put":
        return put_of(words)
    if words[0] == "lay":
        return lay_of(words)
    if words[0] == "wipe":
        return wipe_of(words)
    if words[0] == "step" and len(words) == 2:
        return "step", words[1]
    return None


def put_of(words):
    """The deed of the words `put X Y`."""
    dot = ratios_of(words[1:])
    return ("put", dot) if dot is not None and len(dot) == 2 else None


def lay_of(words):
    """The deed of the words `lay NUMBER .. as LINE`."""
    # No number is called so: the first one parts them from the line.
    if "as" not in words:
        return None
    at = words.index("as")
    row, line = ratios_of(words[1:at]), " ".join(words[at + 1:])
    return ("lay", line, row) if row and line else None


def wipe_of(words):
    """The deed of the words `wipe NUMBER`."""
    numbers = ratios_of(words[1:])
    if numbers is None or len(numbers) != 1 or numbers[0].under != 1:
        return None
    return "wipe", numbers[0].number


def ratios_of(words):
    """The Ratios of which words are the texts; None if one is none."""
    found = []
    for word in words:
        try:
            found.append(Ratio.of(word))
        except BadText:
            return None
    return tuple(found)


def do(board, deed):
    """Does a deed at a board."""
    if deed[0] == "put":
        board.put(deed[1])
    elif deed[0] == "step":
        board.step(deed[1])
    elif deed[0] == "lay":
        board.lay(deed[1], deed[2])
    else:
        board.wipe(deed[1])
