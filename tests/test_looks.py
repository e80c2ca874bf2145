import random
import unittest
from fractions import Fraction

from loosemirrors.books import Book
from loosemirrors.drawings import Drawing, draw
from loosemirrors.errors import BadLooks, BadNames, BadNumber, Nothing
from loosemirrors.kinds import same
from loosemirrors.looks import left, look, shows_look
from loosemirrors.ratios import Ratio
from loosemirrors.scripts import Script
from tests.plainly import Plainly, rows_up_to
from tests.refusals import Refusals
from tests.samples import Strange, all_values, nested
from tests.shelf import CROSS, GREATEST, KITE, TWO, any_book
from tests.sketches import any_rows, as_dot, as_rows, led, plain_rows

PLAIN = ((0, 0), (1, 0, 0), (0, 1, 0), (1, 1, 0))
PEGS = "peg p\npeg q\npeg r"


def crossed(rows=PLAIN):
    return Drawing(Book(CROSS), rows)


def texts(found):
    return [[row.text for row in rows] for rows in found]


def names_of(book, chance, many):
    return tuple(sorted(chance.sample(book.names, min(many, len(book))), key=book.names.index))


def plain_classes(text, names, most, looks):
    """The texts of all classes by where rows lead three dots, and of looks (rows by names, dot, end)."""
    plainly, found = Plainly(text), {}
    for row in rows_up_to(names, most):
        if all(led(rows, row, dot) == end for rows, dot, end in looks):
            found.setdefault(plainly.end(row), []).append(" ".join(row))
    return list(found.values())


def far_drawing(text, seed):
    """A drawing with great numbers, made by geometry."""
    return Drawing(Book(text), as_rows(any_rows(text, seed, 900, 70)))


class Left(Refusals):
    def check(self, book, names, most, looks, expected):
        found = left(book, names, most, looks)
        self.assertIs(type(found), tuple)
        for rows in found:
            self.assertIs(type(rows), tuple)
            self.assertEqual({type(row) for row in rows}, {Script})
        self.assertEqual(texts(found), expected)
        self.assertEqual(left(book, names, most, looks), found)

    def test_without_looks(self):
        cross, two, pegs = Book(CROSS), Book(TWO), Book(PEGS)
        self.check(cross, ("a",), 0, (), [[""]])
        self.check(cross, ("a",), 1, (), [[""], ["a"]])
        self.check(cross, ("a",), 4, (), [["", "a a", "a a a a"], ["a", "a a a"]])
        self.check(cross, ("p", "a"), 1, (), [[""], ["a"], ["p"]])
        self.check(cross, ("p", "a", "b"), 2, (), [["", "a a", "b b", "p p"], ["a", "b p", "p b"], ["b", "a p", "p a"],
                                                  ["p", "a b", "b a"]])
        self.check(two, ("a", "b"), 3, (), [["", "a a", "b b"], ["a", "a a a", "a b b", "b b a"],
                                            ["b", "a a b", "b a a", "b b b"], ["a b"], ["b a"], ["a b a"], ["b a b"]])
        self.check(pegs, ("p", "q", "r"), 2, (), [["", "p p", "q q", "r r"], ["p"], ["q"], ["r"], ["p q"], ["p r"],
                                                  ["q p"], ["q r"], ["r p"], ["r q"]])

    def test_with_looks(self):
        cross, drawn = Book(CROSS), crossed()
        self.check(cross, ("a", "b"), 2, ((drawn, (1, 0), (-1, 0)),), [["a"], ["a b", "b a"]])
        self.check(cross, ("a", "b"), 2, ((drawn, (1, 2), (-1, 2)),), [["a"]])
        self.check(cross, ("a", "b"), 2, ((drawn, (1, 2), (-1, -2)),), [["a b", "b a"]])
        self.check(cross, ("a", "b"), 2, ((drawn, (1, 2), (1, 2)),), [["", "a a", "b b"]])
        self.check(cross, ("a", "b"), 2, ((drawn, (1, 2), (1, 3)),), [])
        self.check(cross, ("a", "b"), 2, ((drawn, (1, 0), (-1, 0)), (drawn, (0, 1), (0, 1))), [["a"]])
        self.check(cross, ("a", "b"), 2, ((drawn, (1, 0), (-1, 0)), (drawn, (0, 1), (0, -1))), [["a b", "b a"]])
        self.check(cross, ("a", "b"), 2, ((drawn, (0, 0), (0, 0)),) * 8, [["", "a a", "b b"], ["a"], ["b"], ["a b", "b a"]])
        self.check(cross, ("a", "c"), 1, ((drawn, (0, 0), (0, 0)), (drawn, (1, 2), (-2, -1))), [["c"]])
        self.check(cross, ("a", "c"), 3, ((drawn, (1, 2), (2, -1)),), [["c a"]])
        self.check(cross, ("p", "a", "b", "c"), 1, ((drawn, (1, 1), (-1, -1)),), [["c"], ["p"]])

    def test_rows_that_are_alike_in_the_drawing_alone(self):
        two = Book(TWO)
        chance = Drawing(two, ((1, 0, 3), (0, 1, 4)))
        self.check(two, ("a", "b"), 2, ((chance, (1, 1), (5, 7)),), [["a b"], ["b a"]])
        flat = Drawing(two, ((1, 0, 3), (-2, 0, -6)))
        self.check(two, ("a", "b"), 2, ((flat, (1, 1), (5, 1)),), [["a"], ["b"]])
        self.check(two, ("a", "b"), 2, ((flat, (1, 1), (5, 1)), (chance, (1, 1), (1, 7))), [["b"]])

    def test_looks_that_contradict_one_another(self):
        cross, drawn = Book(CROSS), crossed()
        looks = ((drawn, (1, 2), (-1, 2)), (drawn, (1, 2), (1, -2)))
        self.check(cross, ("a", "b"), 4, looks, [])
        self.assertIsNone(self.refused(Nothing, None, look, cross, ("a", "b"), 4, looks))
        self.assertIsNone(self.refused(Nothing, None, shows_look, cross, ("a", "b"), 4, looks, (drawn, (1, 2))))
        self.assertIsNone(self.refused(Nothing, None, shows_look, cross, ("a", "b"), 4, looks, None))

    def test_numbers_and_ratios_are_alike(self):
        cross = Book(CROSS)
        ratios = Drawing(Book(CROSS), ((Ratio(0), Ratio(0)), (Ratio(1, 3), Ratio(0), Ratio(0)), (Ratio(0), -7, 0),
                                       (2, Ratio(2), Ratio(0))))
        for drawn in (crossed(), ratios):
            for dot in ((1, 0), (Ratio(1), Ratio(0)), (1, Ratio(0))):
                for end in ((-1, 0), (Ratio(-1), 0), (Ratio(-1), Ratio(0))):
                    self.check(cross, ("a", "b"), 2, ((drawn, dot, end),), [["a"], ["a b", "b a"]])
        half = ((crossed(), (Ratio(1, 2), Ratio(2, 3)), (Ratio(-1, 2), Ratio(2, 3))),)
        self.check(cross, ("a", "b"), 4, half, [["a", "a a a", "a b b", "b a b", "b b a"]])

    def test_plainly(self):
        for seed in range(90):
            book = any_book(seed, 3 + seed % 10)
            chance = random.Random(seed)
            names = names_of(book, chance, 1 + seed % 4)
            most = (4, 4, 3, 3)[len(names) - 1]
            hidden = [chance.choice(names) for _ in range(chance.randint(0, most))]
            looks = []
            for more in range(seed % 4):
                rows = any_rows(book.text, seed + 1000 * more, 2, 1)
                dot = (Fraction(chance.randint(-1, 1)), Fraction(chance.randint(-1, 1)))
                looks.append((rows, dot, led(rows, hidden, dot)))
            told = tuple((Drawing(Book(book.text), as_rows(rows)), as_dot(dot), as_dot(end)) for rows, dot, end in looks)
            expected = plain_classes(book.text, names, most, looks)
            self.assertTrue(any(" ".join(hidden) in rows for rows in expected))
            with self.subTest(text=book.text, names=names, looks=len(looks)):
                self.check(book, names, most, told, expected)

    def test_a_look_by_which_it_is_known(self):
        for seed in range(60):
            book = any_book(seed, 3 + seed % 10)
            chance = random.Random(seed)
            names = names_of(book, chance, 1 + seed % 4)
            hidden = Script(" ".join(chance.choice(names) for _ in range(chance.randint(0, 4))))
            drawing, dot = look(book, names, 4, ())
            found = left(book, names, 4, ((drawing, dot, drawing.led(hidden, dot)),))
            self.assertEqual(len(found), 1)
            self.assertIn(hidden, found[0])

    def test_greatest(self):
        for text in GREATEST:
            book = Book(text)
            names = book.names[-4:]
            self.assertEqual(sum(len(rows) for rows in left(book, names, 4, ())), 341)
            hidden = Script(" ".join(names))
            looks = []
            for seed in range(8):
                drawing = far_drawing(text, seed) if seed % 2 else draw(book)
                dot = (Ratio(seed, 3), -seed)
                looks.append((drawing, dot, drawing.led(hidden, dot)))
            found = left(book, names, 4, tuple(looks))
            self.assertEqual(len(found), 1)
            self.assertIn(hidden, found[0])
            for row in found[0]:
                self.assertEqual(same(book, row, hidden), ("same",))
            looks[5] = looks[5][:2] + ((0, 0),)
            self.assertEqual(left(book, names, 4, tuple(looks)), ())

    def test_twelve_lines_with_numbers_of_900_figures(self):
        text = GREATEST[3]
        book, drawing = Book(text), Drawing(Book(text), as_rows(any_rows(text, 5, 10 ** 900, 1)))
        names = book.names[-4:]
        hidden = Script(" ".join(names))
        looks = []
        for at in range(8):
            dot = (10 ** 899 + at, Ratio(at, 10 ** 899))
            looks.append((drawing, dot, drawing.led(hidden, dot)))
        found = left(book, names, 4, tuple(looks))
        self.assertEqual(len(found), 1)
        self.assertIn(hidden, found[0])
        self.assertIs(shows_look(book, names, 4, (), looks[3][:2]), True)

    def test_numbers_of_900_figures(self):
        great = 10 ** 899 + 3
        book = Book(CROSS)
        drawing = crossed(((great, -great), (great, 7, great * great - 7 * great), (7, -great, 7 * great + great * great),
                           (1, 1, 0)))
        hidden = Script("c a b c")
        dot = (Ratio(1, great), great - 1)
        looks = ((drawing, dot, drawing.led(hidden, dot)),)
        self.assertEqual(texts(left(book, ("a", "b", "c"), 4, looks))[0][0], "a b")
        self.assertEqual(len(left(book, ("a", "b", "c"), 4, looks)), 1)
        self.assertIs(shows_look(book, ("a", "b", "c"), 4, looks, (drawing, dot)), True)


class Look(Refusals):
    def check(self, book, names, most, looks):
        found = look(book, names, most, looks)
        self.assertEqual([type(found), len(found), type(found[0]), type(found[1])], [tuple, 2, Drawing, tuple])
        drawing, dot = found
        self.assertEqual(drawing.book, book)
        self.assertEqual([type(part) for part in dot], [Ratio, Ratio])
        self.assertEqual(look(book, names, most, looks), found)
        self.assertIs(shows_look(book, names, most, looks, found), True)
        rows = plain_rows(drawing)
        spot = tuple(Fraction(part.number, part.under) for part in dot)
        told = left(book, names, most, looks)
        ends = [{led(rows, row.steps, spot) for row in part} for part in told]
        self.assertEqual([len(part) for part in ends], [1] * len(told))
        self.assertEqual(len({end for part in ends for end in part}), len(told))
        return found

    def test_it_parts_all_classes(self):
        for text, names in ((CROSS, ("a", "b")), (CROSS, ("p", "a", "b", "c")), (TWO, ("a", "b")), (KITE, ("a", "p")),
                            (KITE, ("p", "q", "r", "s")), (KITE, ("a", "q", "r", "s")), (PEGS, ("p", "q", "r"))):
            for most in range(5):
                with self.subTest(text=text, names=names, most=most):
                    self.check(Book(text), names, most, ())

    def test_any_books(self):
        for seed in range(50):
            book = any_book(seed, 3 + seed % 10)
            chance = random.Random(seed)
            names = names_of(book, chance, 1 + seed % 4)
            drawing = Drawing(book, as_rows(any_rows(book.text, seed, 2, 1)))
            hidden = Script(" ".join(chance.choice(names) for _ in range(3)))
            looks = ((drawing, (0, 1), drawing.led(hidden, (0, 1))),) * (seed % 2)
            with self.subTest(text=book.text, names=names):
                self.check(book, names, 3, looks)

    def test_many_pegs(self):
        book = Book("\n".join(f"peg {name}" for name in "abcdefghijkl"))
        self.check(book, ("a", "b", "c", "d"), 4, ())
        self.check(book, ("i", "j", "k", "l"), 4, ())
        self.check(book, ("b", "c", "i", "j"), 4, ())

    def test_greatest(self):
        for text in GREATEST:
            book = Book(text)
            for names in (book.names[:4], book.names[-4:]):
                self.check(book, names, 4, ())

    def test_where_one_class_is_left(self):
        cross, drawn = Book(CROSS), crossed()
        looks = ((drawn, (1, 2), (-1, 2)),)
        self.check(cross, ("a", "b"), 2, looks)
        self.check(cross, ("a", "b"), 0, ())
        self.check(cross, ("a", "b"), 0, ((drawn, (1, 2), (1, 2)),))
        for value, right in (((drawn, (0, 0)), True), ((drawn, (1, 2)), True), ((crossed(), (Ratio(1, 2), 3)), True),
                             ((draw(cross), (0, 0)), True), ((drawn, (0,)), False), ((drawn,), False), ((), False)):
            self.assertIs(shows_look(cross, ("a", "b"), 2, looks, value), right)

    def test_names_of_the_arguments(self):
        found = look(looks=(), most=1, names=("a", "b"), book=Book(CROSS))
        self.assertIs(shows_look(value=found, looks=(), most=1, names=("a", "b"), book=Book(CROSS)), True)
        self.assertEqual(texts(left(looks=(), names=("a",), most=1, book=Book(CROSS))), [[""], ["a"]])


class ShowsLook(unittest.TestCase):
    def test_dots_that_part_and_dots_that_do_not(self):
        cross, drawn = Book(CROSS), crossed()
        for names, most, dot, right in (
            (("a", "b"), 2, (1, 2), True), (("a", "b"), 2, (1, 0), False), (("a", "b"), 2, (0, 1), False),
            (("a", "b"), 2, (0, 0), False), (("a", "b"), 2, (1, 1), True), (("a", "b"), 2, (Ratio(1, 7), -3), True),
            (("p",), 4, (1, 0), True), (("p",), 4, (0, 0), False), (("p", "a", "b"), 4, (1, 2), True),
            (("a", "b", "c"), 1, (1, 2), True), (("a", "b", "c"), 1, (1, 1), True), (("a", "b", "c"), 1, (1, -1), False), (("a", "b", "c"), 1, (1, 0), False),
            # In this drawing c is amid a and b: a c and c b lead alike.
            (("a", "b", "c"), 2, (1, 2), False),
        ):
            with self.subTest(names=names, most=most, dot=dot):
                self.assertIs(shows_look(cross, names, most, (), (drawn, dot)), right)
        slant = crossed(((0, 0), (1, 0, 0), (0, 1, 0), (1, 2, 0)))
        self.assertIs(shows_look(cross, ("a", "b", "c"), 2, (), (slant, (1, 5))), True)

    def test_dots_behind_looks(self):
        cross, drawn = Book(CROSS), crossed()
        looks = ((drawn, (1, 0), (-1, 0)),)
        for dot, right in (((1, 0), False), ((0, 1), True), ((0, 0), False), ((5, Ratio(1, 9)), True)):
            self.assertIs(shows_look(cross, ("a", "b"), 2, looks, (drawn, dot)), right)

    def test_by_geometry(self):
        for seed in range(60):
            book = any_book(seed, 3 + seed % 6)
            chance = random.Random(seed)
            names = names_of(book, chance, 3)
            rows = any_rows(book.text, seed, 4, 1)
            drawing = Drawing(Book(book.text), as_rows(rows))
            found = left(book, names, 2, ())
            for _ in range(5):
                dot = (Fraction(chance.randint(-3, 3)), Fraction(chance.randint(-3, 3)))
                ends = [led(rows, part[0].steps, dot) for part in found]
                told = shows_look(book, names, 2, (), (drawing, as_dot(dot)))
                self.assertIs(told, len(set(ends)) == len(ends))

    def test_other_values(self):
        book, names = Book(CROSS), ("a", "b")
        drawing, dot = look(book, names, 2, ())
        self.assertIs(shows_look(book, names, 2, (), (Drawing(Book(CROSS), drawing.rows), dot)), True)
        others = all_values() + [
            [drawing, dot], (drawing,), (drawing, dot, dot), (dot, drawing), (drawing, list(dot)), (drawing, dot[:1]),
            (drawing, dot + dot), (drawing, None), (None, dot), (drawing.rows, dot), (book, dot), ((drawing, dot),),
            (drawing, (True, 2)), (drawing, ("1", 2)), (draw(Book(TWO)), dot), (draw(Book(CROSS + "\npeg q")), dot),
            ([drawing], dot), (drawing, (dot,)), ("look", drawing, dot), {drawing.book.text: dot}, (nested(29), dot),
            (drawing, nested(29)), (drawing, (dot[0], None)), drawing, dot,
        ]
        for value in others:
            with self.subTest(value=value):
                self.assertIs(shows_look(book, names, 2, (), value), False)


# What are no looks of CROSS; fitting ones are (drawn, (1, 2), (1, 2)).
def no_looks():
    drawn, one = crossed(), (1, 2)
    fitting = (drawn, one, one)
    parts = [
        (drawn, one), (drawn, one, one, one), (one, drawn, one), (one, one, drawn), [drawn, one, one], (drawn, [1, 2], one),
        (drawn, one, [1, 2]), (drawn, one, (1,)), (drawn, (1, 2, 3), one), (drawn, one, (True, 2)), (drawn, (1, "2"), one),
        (drawn, one, None), (None, one, one), (drawn.rows, one, one), (Book(CROSS), one, one), (draw(Book(TWO)), one, one),
        (draw(Book(CROSS + "\npeg q")), one, one), (), None, "look", (nested(28), one, one), (drawn, one, nested(28)),
        (Drawing(Book(CROSS.replace("mirror c", "mirror d")), PLAIN), one, one),
    ]
    found = [(part,) for part in parts] + [(fitting, part) for part in parts] + [(part, fitting) for part in parts]
    return found + [(fitting,) * 9, [fitting], fitting, {0: fitting}, [], ((fitting,),), ((),)]


class Refused(Refusals):
    def each(self, error, value, book, names, most, looks):
        self.assertIs(self.refused(error, value, left, book, names, most, looks), value)
        self.assertIs(self.refused(error, value, look, book, names, most, looks), value)
        self.assertIs(self.refused(error, value, shows_look, book, names, most, looks, (crossed(), (1, 2))), value)
        self.assertIs(self.refused(error, value, shows_look, book, names, most, looks, None), value)

    def test_no_names(self):
        book = Book(CROSS)
        for value in all_values() + [("z",), ("a", "a"), ("b", "a"), ("p", "a", "b", "c", "c"), ["a"], "a", ("a", "p")]:
            with self.subTest(value=value):
                for most, looks in ((2, ()), (9, ()), (True, None), (2, [])):
                    self.each(BadNames, value, book, value, most, looks)

    def test_five_names(self):
        book = Book(KITE)
        self.assertEqual(len(left(book, book.names[:4], 1, ())), 5)
        self.each(BadNames, book.names, book, book.names, 1, ())

    def test_no_numbers(self):
        book = Book(CROSS)
        for value in all_values() + [5, 6, -1, True, False, "2", (2,), 2.0, Strange()]:
            if type(value) is int and 0 <= value <= 4:
                continue
            with self.subTest(value=value):
                for looks in ((), None, [], ((),)):
                    self.each(BadNumber, value, book, ("a", "b"), value, looks)

    def test_no_looks(self):
        book = Book(CROSS)
        for value in [value for value in all_values() if value != ()] + no_looks():
            with self.subTest(value=value):
                self.each(BadLooks, value, book, ("a", "b"), 2, value)

    def test_eight_looks_and_nine(self):
        book, fitting = Book(CROSS), (crossed(), (1, 2), (-1, 2))
        self.assertEqual(texts(left(book, ("a", "b"), 2, (fitting,) * 8)), [["a"]])
        self.assertEqual(look(book, ("a", "b"), 2, (fitting,) * 8)[0].book, book)
        nine = (fitting,) * 9
        self.each(BadLooks, nine, book, ("a", "b"), 2, nine)


if __name__ == "__main__":
    unittest.main()
