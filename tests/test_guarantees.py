"""What section 3 of the document tells of books, drawings, tables and kinds."""

import random
import unittest
from fractions import Fraction

from loosemirrors.books import Book
from loosemirrors.drawings import Drawing, draw
from loosemirrors.errors import BadBook
from loosemirrors.kinds import kind, same
from loosemirrors.motions import table
from loosemirrors.scripts import Script
from tests.shelf import CROSS, KITE, any_book, any_row
from tests.sketches import any_rows, as_dot, as_rows, chances, led, line_through, reflected, two_dots_on

OTHERS = dict(zip("abcdefghijkl",
                  ("mirror", "q", "on", "zz", "aa", "is", "amid", "peg", "b", "abcdefgh", "along", "x")))


class AllDrawings(unittest.TestCase):
    def test_what_is_always_so_is_so_in_each_drawing(self):
        for seed in range(150):
            book = any_book(seed, 2 + seed % 11)
            one, other = any_row(book, seed, 5), any_row(book, seed + 1, 5)
            found = same(book, one, other)
            for more in range(4):
                rows = any_rows(book.text, 1000 * seed + more, 3, 1)
                for dot in ((Fraction(0), Fraction(0)), (Fraction(1), Fraction(0)), (Fraction(2), Fraction(1))):
                    if led(rows, one.steps, dot) != led(rows, other.steps, dot):
                        self.assertEqual(found[0], "apart")

    def test_what_is_not_is_not_so_in_the_told_drawing(self):
        for seed in range(150):
            book = any_book(seed, 2 + seed % 11)
            one, other = any_row(book, seed, 8), any_row(book, seed + 1, 8)
            found = same(book, one, other)
            if found[0] == "apart":
                self.assertNotEqual(found[1].led(one, found[2]), found[1].led(other, found[2]))


class ThereAndBack(unittest.TestCase):
    def test_the_contrary_row_undoes(self):
        for seed in range(100):
            book = any_book(seed, 2 + seed % 11)
            script = any_row(book, seed, 24)
            drawing = draw(book)
            self.assertEqual(drawing.led(~script, drawing.led(script, (3, -4))), drawing.led(Script(""), (3, -4)))
            motion = table(book, script)
            self.assertEqual(motion * table(book, ~script), table(book, Script("")))
            if len(script) <= 12:
                self.assertEqual(kind(book, script * ~script)[0], "nothing")

    def test_one_row_behind_another(self):
        for seed in range(100):
            book = any_book(seed, 2 + seed % 11)
            one, other = any_row(book, seed, 12), any_row(book, seed + 1, 12)
            drawing = draw(book)
            middle = table(book, one).at(drawing, (1, 2))
            end = table(book, other).at(drawing, middle)
            self.assertEqual(drawing.led(one * other, (1, 2)), end)
            self.assertEqual((table(book, one) * table(book, other)).at(drawing, (1, 2)), end)


def moved(row, rows, steps):
    """The row of a mirror, or of a peg, moved by steps of other rows."""
    if len(row) == 2:
        return led(rows, steps, row)
    one, other = two_dots_on(row)
    return line_through(led(rows, steps, one), led(rows, steps, other))


class MovedAlong(unittest.TestCase):
    def test_ends_are_moved_along(self):
        for seed in range(150):
            book = any_book(seed, 2 + seed % 11)
            rows = any_rows(book.text, seed)
            chance = chances(seed)
            guides = {"a": (Fraction(3), chance(), chance()), "b": (chance(), Fraction(-2), chance()),
                      "p": (chance(), chance())}
            # A mirroring, a turn, a half turn, a shift, a glide.
            for steps in (["a"], ["a", "b"], ["p"], ["a", "b", "a", "p", "b"], ["a", "p"]):
                there = {name: moved(row, guides, steps) for name, row in rows.items()}
                script = any_row(book, seed)
                one = Drawing(book, as_rows(rows))
                other = Drawing(book, as_rows(there))
                dot = (chance(), chance())
                end = one.led(script, as_dot(dot))
                plain = tuple(Fraction(number.number, number.under) for number in end)
                with self.subTest(text=book.text, steps=steps):
                    start = as_dot(led(guides, steps, dot))
                    self.assertEqual(other.led(script, start), as_dot(led(guides, steps, plain)))
                    self.assertEqual(table(book, script).at(other, start), as_dot(led(guides, steps, plain)))

    def test_reflected_by_hand(self):
        self.assertEqual(reflected((1, 0, 3), (1, 5)), (5, 5))


def renamed(line, names):
    """A line with its names exchanged; where a word stands tells whether it is one."""
    words = line.split(" ")
    places = {"through": (3,), "along": (3, 5), "across": (3, 5), "from": (3, 5), "on": (3,), "amid": (3, 4)}
    form = words[2] if len(words) > 2 else ""
    at = range(3, len(words)) if form == "is" else places.get(form, ())
    return " ".join(names[word] if place == 1 or place in at else word for place, word in enumerate(words))


class Names(unittest.TestCase):
    def test_all_that_is_told_stays_with_other_names(self):
        for seed in range(120):
            book = any_book(seed, 2 + seed % 11)
            other = Book("\n".join(renamed(line, OTHERS) for line in book.text.split("\n")))
            for told, there in ((book.names, other.names), (book.mirrors, other.mirrors), (book.pegs, other.pegs),
                                (book.loose, other.loose)):
                self.assertEqual(tuple(OTHERS[name] for name in told), there)
            script, more = any_row(book, seed), any_row(book, seed + 1, 4)
            row, last = (Script(" ".join(OTHERS[name] for name in one.steps)) for one in (script, more))
            one, two = table(book, script), table(other, row)
            self.assertEqual((one.over, one.sign, one.powers), (two.over, two.sign, two.powers))
            terms = [(OTHERS[term[0]],) + term[1:] for term in one.terms]
            self.assertEqual(sorted(terms, key=lambda term: term[:3]), list(two.terms))
            self.assertEqual(kind(book, script)[0], kind(other, row)[0])
            self.assertEqual(same(book, script, more)[0], same(other, row, last)[0])
            rows = as_rows(any_rows(book.text, seed))
            self.assertEqual(Drawing(book, rows).led(script, (1, 2)), Drawing(other, rows).led(row, (1, 2)))

    def test_neighbouring_lines_change_places(self):
        for seed in range(120):
            book = any_book(seed, 3 + seed % 10)
            lines = book.text.split("\n")
            at = seed % (len(lines) - 1)
            if book.names[at] in renamed_places(lines[at + 1]):
                continue
            other = Book("\n".join(lines[:at] + [lines[at + 1], lines[at]] + lines[at + 2:]))
            script, more = any_row(book, seed), any_row(book, seed + 1, 4)
            one, two = table(book, script), table(other, script)
            order = [other.loose.index(name) for name in book.loose]
            self.assertEqual((one.over, one.sign, one.powers),
                             (two.over, two.sign, tuple(two.powers[at] for at in order)))
            terms = [term[:2] + (tuple(term[2][at] for at in order), term[3]) for term in two.terms]
            self.assertEqual(list(one.terms), sorted(terms, key=lambda term: term[:3]))
            self.assertEqual(kind(book, script)[0], kind(other, script)[0])
            self.assertEqual(same(book, script, more)[0], same(other, script, more)[0])


def renamed_places(line):
    """The names by which a line tells its own."""
    marked = renamed(line, {word: word.upper() for word in line.split(" ")})
    return [word.lower() for at, word in enumerate(marked.split(" ")) if at > 1 and word.isupper()]


# A line, and one by which its NAME can only be where it could be before.
MORE_TOLD = (
    (CROSS + "\nmirror z", CROSS + "\nmirror z through p", "z z", "z p"),
    (CROSS + "\nmirror z through p", CROSS + "\nmirror z is a c b", "a z", "z c"),
    (CROSS + "\nmirror z through p", CROSS + "\nmirror z across c through p", "z p", "c z"),
    (KITE + "\npeg z", KITE + "\npeg z on a", "a z", "z a"),
    (KITE + "\npeg z on a", KITE + "\npeg z amid p q", "a z a", "z p z"),
    (KITE + "\nmirror z", KITE + "\nmirror z is a", "z a", "r z"),
    (KITE + "\nmirror z through r", KITE + "\nmirror z along a through r", "r z", "z r"),
    (KITE + "\npeg z", KITE + "\npeg z from p in a", "z", "q"),
)


class MoreTold(unittest.TestCase):
    def test_what_was_always_so_is_so_still(self):
        for loose, tight, start, behind in MORE_TOLD:
            before, after = Book(loose), Book(tight)
            chance = random.Random(loose)
            rows = [Script(start), Script(behind)] + [any_row(before, chance.random(), 4) for _ in range(25)]
            for one in rows:
                for other in rows:
                    if same(before, one, other) == ("same",):
                        self.assertEqual(same(after, one, other), ("same",))
                if kind(before, one)[0] in ("nothing", "mirroring", "half turn"):
                    self.assertEqual(kind(after, one)[0], kind(before, one)[0])

    def test_lines_with_rows_stand_still(self):
        book = Book("peg p\nmirror a through p\nmirror b through p\nmirror c through p\nmirror d is a b c")
        self.assertIn("d", Book(book.text.replace("mirror c through p", "mirror c across a through p")))
        with self.assertRaises(BadBook):
            Book(book.text.replace("mirror c through p", "mirror c"))


if __name__ == "__main__":
    unittest.main()
