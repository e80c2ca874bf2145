"""Decimal figures of integers, however many these are.

Python's str and int refuse more than some thousand figures, but what is
reckoned from drawings may have more: so figures are read and written in blocks.
"""

WIDTH = 64
BLOCK = 10 ** 64


def is_figures(text):
    """Whether a string has one figure 0 to 9 or more, and nothing else."""
    return text.isascii() and text.isdigit()


def figures_of(number):
    """The text of an integer."""
    rest = abs(number)
    blocks = []
    while rest >= BLOCK:
        rest, block = divmod(rest, BLOCK)
        blocks.append(str(block).zfill(WIDTH))
    blocks.append(str(rest))
    if number < 0:
        blocks.append("-")
    return "".join(blocks[::-1])


def integer_of(text):
    """The integer of a text of figures, perhaps with a minus ahead."""
    figures = text.removeprefix("-")
    head = len(figures) % WIDTH
    # The zero ahead stands for a first block without figures.
    number = int("0" + figures[:head])
    for start in range(head, len(figures), WIDTH):
        number = number * BLOCK + int(figures[start:start + WIDTH])
    return -number if text.startswith("-") else number
