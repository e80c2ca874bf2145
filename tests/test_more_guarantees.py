"""What section 3 of the document tells of claims, rows, looks, lines and boards."""

import random
import unittest
from fractions import Fraction

from loosemirrors.boards import Board
from loosemirrors.books import Book
from loosemirrors.choosing import cheapest
from loosemirrors.claims import judged, shows_judged
from loosemirrors.drawings import Drawing, draw
from loosemirrors.errors import BadBook, Needed
from loosemirrors.journals import journal, read_journal
from loosemirrors.kinds import same
from loosemirrors.least import nothings, shortest
from loosemirrors.looks import left, look
from loosemirrors.needing import core, loosened, needed
from loosemirrors.scripts import Script
from tests.shelf import CROSS, KITE, any_book, any_claim, any_row
from tests.sketches import any_rows, as_dot, as_rows, chances, is_so, led
from tests.test_guarantees import MORE_TOLD, OTHERS, moved, renamed, renamed_places


def names_of(book, seed, many=3):
    chosen = random.Random(seed).sample(book.names, min(many, len(book)))
    return tuple(sorted(chosen, key=book.names.index))


def as_other(script):
    """A script with other names."""
    return Script(" ".join(OTHERS[name] for name in script.steps))


def renamed_claim(claim):
    if claim.startswith("even "):
        return "even " + " ".join(OTHERS[name] for name in claim.split(" ")[1:])
    return renamed(claim, OTHERS)


def sure_claims(book, seed, many=8):
    """Claims that are always so, some of them lines of the book."""
    chance = random.Random(seed)
    found = [line for line in book.text.split("\n") if len(line.split(" ")) > 2]
    found += [claim for claim in (any_claim(book, chance) for _ in range(many)) if judged(book, claim)[0] == "always"]
    return found


class AllDrawings(unittest.TestCase):
    def test_what_is_always_so_is_so_in_each_drawing(self):
        for seed in range(60):
            book = any_book(seed, 3 + seed % 10)
            for claim in sure_claims(book, seed):
                for more in range(3):
                    self.assertTrue(is_so(any_rows(book.text, 1000 * seed + more, 3, 1), claim))

    def test_rows_that_are_told_to_be_alike_are(self):
        for seed in range(40):
            book = any_book(seed, 3 + seed % 10)
            names = names_of(book, seed)
            rows = any_rows(book.text, seed, 4, 2)
            dot = (Fraction(2), Fraction(-1))
            for row in nothings(book, names, 5):
                self.assertEqual(led(rows, row.steps, dot), dot)
            for together in left(book, names, 3, ()):
                self.assertEqual(len({led(rows, row.steps, dot) for row in together}), 1)

    def test_needed_lines_hold_in_the_core(self):
        for seed in range(40):
            book = any_book(seed, 3 + seed % 10)
            for claim in sure_claims(book, seed, 4):
                rest = core(book, claim)
                for more in range(2):
                    self.assertTrue(is_so(any_rows(rest.text, seed + more, 5, 1), claim))
                # What is not always so where all others tell more is not where these tell less.
                for name in needed(book, claim):
                    if self.can_be_loosened(book, name):
                        self.assertEqual(rest[name], book[name])

    def can_be_loosened(self, book, name):
        try:
            return loosened(book, name) != book
        except Needed:
            return False


class ThereAndBack(unittest.TestCase):
    def test_the_contrary_row_undoes(self):
        for seed in range(60):
            book = any_book(seed, 2 + seed % 11)
            script = any_row(book, seed, 12)
            self.assertEqual(shortest(book, names_of(book, seed), script * ~script), ("row", Script("")))
            board = Board(draw(book))
            board.put((3, -4))
            dots = board.dots
            for name in (script * ~script).steps:
                board.step(name)
            self.assertEqual((board.dots, board.kind()), (dots, "nothing"))


class MovedAlong(unittest.TestCase):
    def test_claims_and_ends_are_moved_along(self):
        for seed in range(80):
            book = any_book(seed, 3 + seed % 10)
            rows = any_rows(book.text, seed, 3, 1)
            chance = chances(seed)
            guides = {"a": (Fraction(3), chance(), chance()), "b": (chance(), Fraction(-2), chance()),
                      "p": (chance(), chance())}
            claims = [any_claim(book, random.Random(seed + more)) for more in range(6)]
            one = Drawing(book, as_rows(rows))
            script = any_row(book, seed, 6)
            for steps in (["a"], ["a", "b"], ["p"], ["a", "p"]):
                there = Drawing(book, as_rows({name: moved(row, guides, steps) for name, row in rows.items()}))
                for claim in claims:
                    value, other = ("not", one), ("not", there)
                    self.assertEqual(shows_judged(book, claim, value), shows_judged(book, claim, other))
                board, far = Board(one), Board(there)
                dot = (chance(), chance())
                board.put(as_dot(dot))
                far.put(as_dot(led(guides, steps, dot)))
                for name in script.steps:
                    board.step(name)
                    far.step(name)
                end = tuple(Fraction(part.number, part.under) for part in board.dots[0])
                self.assertEqual(far.dots[0], as_dot(led(guides, steps, end)))


class Names(unittest.TestCase):
    def test_all_that_is_told_stays_with_other_names(self):
        for seed in range(60):
            book = any_book(seed, 3 + seed % 10)
            other = Book("\n".join(renamed(line, OTHERS) for line in book.text.split("\n")))
            names, there = names_of(book, seed), tuple(OTHERS[name] for name in names_of(book, seed))
            for more in range(5):
                claim = any_claim(book, random.Random(seed + more))
                self.assertEqual(judged(book, claim)[0], judged(other, renamed_claim(claim))[0])
            found = {as_other(row).text for row in nothings(book, names, 5)}
            self.assertEqual(found, {row.text for row in nothings(other, there, 5)})
            script = any_row(book, seed, 5)
            one, two = shortest(book, names, script), shortest(other, there, as_other(script))
            self.assertEqual((one[0], len(one[-1])), (two[0], len(two[-1])))
            drawing = Drawing(book, as_rows(any_rows(book.text, seed, 2, 1)))
            far = Drawing(other, drawing.rows)
            hidden = Script(" ".join(names))
            looks = ((drawing, (1, 2), drawing.led(hidden, (1, 2))),)
            classes = {frozenset(as_other(row).text for row in rows) for rows in left(book, names, 3, looks)}
            looks = ((far, (1, 2), far.led(as_other(hidden), (1, 2))),)
            self.assertEqual(classes, {frozenset(row.text for row in rows) for rows in left(other, there, 3, looks)})
            for claim in sure_claims(book, seed, 3):
                claim, known = renamed_claim(claim), claim
                self.assertEqual(tuple(OTHERS[name] for name in needed(book, known)), needed(other, claim))
                self.assertEqual("\n".join(renamed(line, OTHERS) for line in core(book, known).text.split("\n")),
                                 core(other, claim).text)

    def test_neighbouring_lines_change_places(self):
        for seed in range(80):
            book = any_book(seed, 3 + seed % 10)
            lines = book.text.split("\n")
            at = seed % (len(lines) - 1)
            if book.names[at] in renamed_places(lines[at + 1]):
                continue
            other = Book("\n".join(lines[:at] + [lines[at + 1], lines[at]] + lines[at + 2:]))
            names = names_of(book, seed)
            there = tuple(sorted(names, key=other.names.index))
            for more in range(5):
                claim = any_claim(book, random.Random(seed + more))
                self.assertEqual(judged(book, claim)[0], judged(other, claim)[0])
            self.assertEqual(nothings(book, names, 5), nothings(other, there, 5))
            self.assertEqual(left(book, names, 3, ()), left(other, there, 3, ()))
            for claim in sure_claims(book, seed, 3):
                self.assertEqual(set(needed(book, claim)), set(needed(other, claim)))


class MoreTold(unittest.TestCase):
    def test_claims_that_were_always_so_are_so_still(self):
        for loose, tight, _, _ in MORE_TOLD:
            before, after = Book(loose), Book(tight)
            chance = random.Random(loose)
            for _ in range(60):
                claim = any_claim(before, chance)
                if judged(before, claim)[0] == "always":
                    self.assertEqual(judged(after, claim), ("always",))

    def test_what_is_loosened_tells_less(self):
        for seed in range(40):
            book = any_book(seed, 3 + seed % 10)
            chance = random.Random(seed)
            claims = [any_claim(book, chance) for _ in range(6)]
            for name in book.names:
                if len(book[name].split(" ")) > 2:
                    try:
                        looser = loosened(book, name)
                    except (Needed, BadBook):
                        continue
                    for claim in claims:
                        if judged(looser, claim)[0] == "always":
                            self.assertEqual(judged(book, claim), ("always",))

    def test_rows_that_did_the_same_do_it_still(self):
        before, after = Book(KITE.replace("peg r on a", "peg r")), Book(KITE)
        for row in nothings(before, ("a", "p", "q"), 6):
            self.assertEqual(same(after, row, Script("")), ("same",))
        self.assertLess(len(left(after, ("a", "r"), 4, ())), len(left(before, ("a", "r"), 4, ())))


class Live(unittest.TestCase):
    def test_equal_calls_and_what_changes_nothing(self):
        board = Board(draw(Book(CROSS)))
        board.put((1, 2))
        board.step("a")
        text, drawing, rows = journal(board), board.drawing, board.drawing.rows
        self.assertEqual([board.kind(), board.kind(), board.judged("peg p is a b"), board.judged("peg p is a b")],
                         ["mirroring", "mirroring", "always", "always"])
        self.assertEqual((journal(board), read_journal(text)), (text, board))
        board.lay("peg q", (1, 1))
        self.assertEqual((board.first, drawing.rows, len(drawing.book)), (drawing, rows, 4))
        self.assertEqual(board.judged("peg q on a"), "not")

    def test_nothing_handed_in_is_changed(self):
        book = Book(CROSS)
        before = book.text, book.names
        offers = (("c", "mirror c along a through p", 2),)
        cheapest(book, offers, (("mirror c is a", "always"),))
        core(book, "peg p is a b")
        loosened(book, "b")
        drawing, dot = look(book, ("a", "b"), 3, ())
        rows = drawing.rows
        board = Board(drawing)
        board.put(dot)
        board.lay("peg q", (1, 1))
        board.step("q")
        self.assertEqual((book.text, book.names, drawing.rows, board.first.book), before + (rows, book))


if __name__ == "__main__":
    unittest.main()
