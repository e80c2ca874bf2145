"""Lines of books: their words, and where names stand among these."""

from loosemirrors.checks import is_name

MOST_LINES = 12
MOST_LOOSE = 5
# As many lines of the forms `from A in B`, `from P in A` and `is ROW` as a book may have.
MOST_ROWS = 3
MOST_IN_ROW = 6

# Of each form what it is called here. A and B are mirrors, P and Q pegs, ROW is one name or more.
FORMS = {
    "mirror NAME": "any",
    "mirror NAME through P": "through",
    "mirror NAME along A through P": "along",
    "mirror NAME across A through P": "across",
    "mirror NAME from A in B": "from",
    "mirror NAME is ROW": "is",
    "peg NAME": "any",
    "peg NAME on A": "on",
    "peg NAME from P in A": "from",
    "peg NAME from P about Q": "about",
    "peg NAME amid P Q": "amid",
    "peg NAME is ROW": "is",
}

# What a sign of a form asks for; ROW asks for nothing.
WANTED = {"A": "mirror", "B": "mirror", "P": "peg", "Q": "peg", "ROW": ""}


class Line:
    """A line: its text, its first word, its form, the name that it tells and the others by which it does."""

    def __init__(self, text, form, words, signs):
        self.text = text
        self.form = form
        self.word = words[0]
        self.name = words[1]
        self.others = tuple([word for word, sign in zip(words, signs) if sign in WANTED])
        self.wanted = tuple([WANTED[sign] for sign in signs if sign in WANTED])
        self.row = row_of(form, self.others)


def row_of(form, others):
    """The row that does what the name of a line does; none for forms that tell it otherwise."""
    if form == "is":
        return others
    # What one comes to in the other one does what the other one, one and the other one do in turn.
    if form == "from" or form == "about":
        return (others[1], others[0], others[1])
    return ()


def line_of(text):
    """The line of this text; None if its words have none of the forms."""
    words = text.split(" ")
    for pattern in FORMS:
        signs = signs_for(pattern, len(words))
        if are_like(words, signs):
            return Line(text, FORMS[pattern], words, signs)
    return None


def signs_for(pattern, many):
    """The signs of a form that has so many words, as far as its ROW can be so long."""
    signs = pattern.split(" ")
    more = many - len(signs)
    if signs[-1] == "ROW" and 0 < more < MOST_IN_ROW:
        return signs + ["ROW"] * more
    return signs


def are_like(words, signs):
    """Whether words have a form: names where its signs are capitals, otherwise the form's own words."""
    if len(words) != len(signs):
        return False
    return all([is_name(word) if sign.isupper() else word == sign for word, sign in zip(words, signs)])


def is_loose(line):
    """Whether a line tells a loose mirror."""
    return line.word == "mirror" and (line.form == "any" or line.form == "through")


def is_of_row(line):
    """Whether a line is one of those of which a book may have a few only."""
    return line.form == "from" or line.form == "is"


def has_new_name(line, ahead):
    """Whether a line tells a new name by names ahead; ahead tells of each of these its first word."""
    return line.name not in ahead and has_names(line, ahead)


def has_names(line, known):
    """Whether the others of a line are known names of the right words, unlike ones if they are no ROW."""
    if not all([name in known for name in line.others]):
        return False
    if line.form == "is":
        return True
    if len(set(line.others)) < len(line.others):
        return False
    return all([known[name] == word for name, word in zip(line.others, line.wanted)])


def are_few(lines):
    """Whether a book may have so many loose mirrors, and so many lines with rows."""
    loose = [line for line in lines if is_loose(line)]
    rows = [line for line in lines if is_of_row(line)]
    return len(loose) <= MOST_LOOSE and len(rows) <= MOST_ROWS


def fitting_lines(texts):
    """The lines ahead of the first one that cannot stand there by its words, its names or how many there are."""
    lines = []
    ahead = {}
    for text in texts[:MOST_LINES]:
        line = line_of(text)
        if line is None or not has_new_name(line, ahead) or not are_few([*lines, line]):
            return lines
        lines.append(line)
        ahead[line.name] = line.word
    return lines
