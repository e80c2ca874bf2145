import unittest
from fractions import Fraction

from loosemirrors.books import Book
from loosemirrors.drawings import Drawing, draw
from loosemirrors.errors import BadDot, BadRows, BadScript, NoName
from loosemirrors.ratios import Ratio
from loosemirrors.scripts import Script
from tests.refusals import Refusals
from tests.samples import LONG, Strange, all_values, no_numbers, no_strings
from tests.shelf import CROSS, FORMS, GREATEST, KITE, TWO, any_book, any_row
from tests.sketches import any_rows, as_dot, as_rows, led

HUGE = 10 ** 899 + 7

# For each form right rows of its book, made by hand, and for the last one such as are wrong.
BY_HAND = {
    "mirror NAME": (((3, 4, 5),), ()),
    "mirror NAME through P": (((1, 2), (3, 4, 11)), ((3, 4, 10), (3, 5, 11), (0, 1, 1), (3, 4, -11))),
    "mirror NAME along A through P": (
        ((1, 2, 3), (5, 1), (1, 2, 7)), ((1, 2, 8), (1, 2, 3), (2, 1, 11), (1, -2, 3), (1, 0, 5), (-1, 2, 7))),
    "mirror NAME across A through P": (
        ((1, 2, 3), (5, 1), (2, -1, 9)), ((2, -1, 8), (1, 2, 7), (2, 1, 11), (1, -2, 3), (0, 1, 1))),
    "mirror NAME from A in B": (
        ((1, 0, 3), (1, -1, 0), (0, 1, 3)), ((0, 1, -3), (1, 0, 3), (1, 0, -3), (0, 1, 4), (1, 1, 3), (1, 0, 0))),
    "mirror NAME is ROW": (((1, 0, 3), (1, 0, 5), (1, 0, 1)), ((1, 0, 7), (1, 0, 2), (0, 1, 1), (1, 0, 5), (1, 1, 1))),
    "peg NAME": (((-1, 7),), ()),
    "peg NAME on A": (((1, 2, 3), (5, -1)), ((5, 1), (5, 0), (0, 0), (3, 5))),
    "peg NAME from P in A": (((1, 0, 3), (1, 5), (5, 5)), ((5, 4), (4, 5), (1, 5), (-5, 5), (-1, -5))),
    "peg NAME from P about Q": (((1, 2), (4, 4), (7, 6)), ((7, 5), (-2, 0), (4, 4), (1, 2))),
    "peg NAME amid P Q": (((1, 2), (4, 4), (Ratio(5, 2), 3)), ((2, 3), (Ratio(5, 2), 2), (7, 6), (1, 2), (5, 6))),
    "peg NAME is ROW": (((1, 2), (1, 0, 1), (0, 1, 2), (1, 2)), ((1, 1), (2, 2), (0, 0), (-1, -2))),
}


def told(rows):
    """Rows as they are told, all numbers Ratios."""
    return tuple(tuple(number if type(number) is Ratio else Ratio(number) for number in row) for row in rows)


def stretched(row, number):
    return tuple(part * number for part in row)


class Right(Refusals):
    def test_forms_by_hand(self):
        self.assertEqual(set(BY_HAND), set(FORMS))
        for form, (rows, _) in BY_HAND.items():
            with self.subTest(form=form):
                book = Book(FORMS[form])
                drawing = Drawing(book, rows)
                self.assertEqual(drawing.book, book)
                self.assertEqual(drawing.rows, told(rows))
                self.assertEqual({type(number) for row in drawing.rows for number in row}, {Ratio})
                self.assertEqual({type(row) for row in drawing.rows} | {type(drawing.rows)}, {tuple})
                for name, row in zip(book.names, told(rows)):
                    self.assertEqual(drawing[name], row)

    def test_stretched_rows_of_mirrors(self):
        for form, (rows, _) in BY_HAND.items():
            for at, row in enumerate(rows):
                if len(row) == 3:
                    for number in (2, -1, Ratio(1, 3), Ratio(-5, 7), HUGE, Ratio(1, HUGE)):
                        with self.subTest(form=form, at=at, number=number):
                            found = rows[:at] + (stretched(row, number),) + rows[at + 1:]
                            self.assertEqual(Drawing(Book(FORMS[form]), found).rows, told(found))

    def test_rows_by_school_geometry(self):
        for text in list(FORMS.values()) + [CROSS, KITE] + list(GREATEST):
            for seed in range(6):
                rows = any_rows(text, seed)
                self.assertEqual(Drawing(Book(text), as_rows(rows)).rows, as_rows(rows))

    def test_rows_of_any_books(self):
        for seed in range(150):
            book = any_book(seed, 3 + seed % 10)
            rows = as_rows(any_rows(book.text, seed))
            with self.subTest(text=book.text):
                self.assertEqual(Drawing(book, rows).rows, rows)

    def test_what_lies_so_by_chance(self):
        # Pegs at one dot, mirrors in one line, pegs on mirrors, right angles.
        for text, rows in (
            (TWO, ((1, 0, 3), (2, 0, 6))), (TWO, ((1, 0, 3), (0, 1, 3))),
            ("peg p\npeg q\npeg r amid p q", ((1, 1), (1, 1), (1, 1))),
            (KITE, ((1, 0, 3), (3, 1), (3, 1), (3, 1), (3, 1))),
            ("peg p\npeg q\npeg r from p about q", ((0, 0), (0, 0), (0, 0))),
            ("mirror a\nmirror b\nmirror c from a in b", ((1, 0, 3), (0, 1, 3), (1, 0, 3))),
            ("mirror a\nmirror b\nmirror c from a in b", ((1, 0, 3), (1, 0, 3), (1, 0, 3))),
        ):
            self.assertEqual(Drawing(Book(text), rows).rows, told(rows))

    def test_integers_and_ratios(self):
        book = Book(TWO)
        one = Drawing(book, ((1, 0, 3), (0, 2, 4)))
        self.assertEqual(one, Drawing(book, ((Ratio(1), 0, Ratio(3)), (Ratio(0), Ratio(2), 4))))
        self.assertEqual(one.rows, ((Ratio(1), Ratio(0), Ratio(3)), (Ratio(0), Ratio(2), Ratio(4))))

    def test_great_numbers(self):
        rows = ((Ratio(HUGE, 3), 2, -HUGE), (0, Ratio(-HUGE, 2)), (HUGE, Ratio(6, HUGE), Ratio(-3)))
        self.assertEqual(Drawing(Book("mirror a\npeg p on a\nmirror z through p"), rows).rows, told(rows))
        wrong = rows[:2] + ((HUGE, Ratio(6, HUGE), Ratio(-3, HUGE)),)
        self.refused(BadRows, wrong, Drawing, Book("mirror a\npeg p on a\nmirror z through p"), wrong)

    def test_what_is_handed_in_stays(self):
        rows = ((1, 0, 3), (0, 2, 4))
        book = Book(TWO)
        Drawing(book, rows).led(Script("a b"), (1, 1))
        self.assertEqual(rows, ((1, 0, 3), (0, 2, 4)))
        self.assertEqual({type(number) for row in rows for number in row}, {int})
        self.assertEqual(book.text, TWO)

    def test_names_of_the_arguments(self):
        drawing = Drawing(rows=((1, 0, 3), (0, 2, 4)), book=Book(TWO))
        self.assertEqual(drawing.led(dot=(1, 1), script=Script("a")), (Ratio(5), Ratio(1)))
        self.assertEqual(draw(book=Book(TWO)).book, Book(TWO))


class Wrong(Refusals):
    def refuse(self, book, rows):
        self.assertIs(self.refused(BadRows, rows, Drawing, book, rows), rows)

    def test_forms_by_hand(self):
        for form, (rows, wrong) in BY_HAND.items():
            for row in wrong:
                with self.subTest(form=form, row=row):
                    self.refuse(Book(FORMS[form]), rows[:-1] + (row,))

    def test_mirrors_through_one_dot(self):
        # Each of these leads the dot (0, 0) to itself, as the right one does.
        ahead = ((1, 0, 0), (1, 1, 0))
        book = Book("mirror a\nmirror b\nmirror c from a in b")
        self.assertEqual(Drawing(book, ahead + ((0, 1, 0),)).rows, told(ahead + ((0, 1, 0),)))
        for row in ((1, 0, 0), (1, 1, 0), (1, -1, 0), (1, 2, 0)):
            self.refuse(book, ahead + (row,))
            self.refuse(Book("mirror a\nmirror b\nmirror c is b a b"), ahead + (row,))

    def test_parts_of_the_right_numbers(self):
        book = Book("mirror a\npeg p\npeg q from p in a")
        for row in ((Ratio(5, 3), Ratio(5, 3)), (Ratio(5, 3), 5), (5, Ratio(5, 3)), (15, 15)):
            self.refuse(book, ((1, 0, 3), (1, 5), row))
        book = Book("peg p\npeg q\npeg r amid p q")
        for row in ((Ratio(1, 3), Ratio(1, 3)), (Ratio(1, 3), 1), (1, Ratio(1, 3))):
            self.refuse(book, ((0, 0), (2, 2), row))

    def test_one_number_otherwise(self):
        """Of the last row each number is changed: of a form that leaves a choice, for one that is none of these."""
        for form, (rows, wrong) in BY_HAND.items():
            if wrong:
                for at in range(len(rows[-1])):
                    for more in (1, -1, Ratio(1, HUGE)):
                        row = rows[-1][:at] + (rows[-1][at] + more,) + rows[-1][at + 1:]
                        with self.subTest(form=form, row=row):
                            found = rows[:-1] + (row,)
                            if stretches(rows[-1], row):
                                Drawing(Book(FORMS[form]), found)
                            else:
                                self.refuse(Book(FORMS[form]), found)

    def test_a_row_ahead_otherwise(self):
        for text in [text for text in FORMS.values() if "\n" in text] + [KITE, CROSS]:
            rows = as_rows(any_rows(text, 3))
            others = as_rows(any_rows(text, 4))
            for at in range(len(rows) - 1):
                with self.subTest(text=text, at=at):
                    self.refuse(Book(text), rows[:at] + (others[at],) + rows[at + 1:])

    def test_no_mirror(self):
        for row in ((0, 0, 0), (0, 0, 1), (Ratio(0), 0, 3), (Ratio(0), Ratio(0), Ratio(0))):
            self.refuse(Book("mirror a"), (row,))
            self.refuse(Book("peg p\nmirror a through p"), ((0, 0), row))
            self.refuse(Book("mirror a\npeg p on a"), (row, (0, 0)))
            self.refuse(Book("mirror a\nmirror b\nmirror c is a b a"), ((1, 0, 0), row, (1, 0, 0)))

    def test_rows_of_other_sizes(self):
        for row in ((), (1,), (1, 2), (1, 2, 3, 4)):
            self.refuse(Book("mirror a"), (row,))
        for row in ((), (1,), (1, 2, 3), (1, 2, 3, 4)):
            self.refuse(Book("peg a"), (row,))
        self.refuse(Book("mirror a\npeg p"), ((1, 2), (1, 0, 3)))

    def test_more_and_fewer_rows(self):
        for form, (rows, _) in BY_HAND.items():
            book = Book(FORMS[form])
            for found in (rows[:-1], rows + (rows[-1],), rows + ((),), (), rows[1:], rows + rows, (rows,),
                          rows[::-1] + (1,)):
                with self.subTest(form=form, rows=found):
                    self.refuse(book, found)

    def test_rows_exchanged(self):
        self.refuse(Book(KITE), ((1, 0, 3), (5, 5), (1, 4), (3, 8), (3, 5)))
        self.refuse(Book("mirror a\nmirror b\nmirror c from a in b"), ((1, 0, 3), (0, 1, 3), (1, -1, 0)))
        self.refuse(Book("peg p\nmirror a through p"), ((3, 4, 11), (1, 2)))
        self.refuse(Book("peg p\npeg q\npeg r amid p q"), ((0, 0), (1, 1), (2, 2)))

    def test_lists_for_tuples(self):
        book = Book(TWO)
        for rows in ([(1, 0, 3), (0, 2, 4)], ([1, 0, 3], (0, 2, 4)), ((1, 0, 3), [0, 2, 4]), [[1, 0, 3], [0, 2, 4]]):
            self.refuse(book, rows)
        self.refuse(Book("peg p"), ([0, 0],))
        self.refuse(Book("peg p"), [(0, 0)])

    def test_what_is_no_number(self):
        for value in no_numbers():
            with self.subTest(value=value):
                for row in ((value, 1, 2), (1, value, 2), (1, 1, value)):
                    self.refuse(Book("mirror a"), (row,))
                    self.refuse(Book("peg p\nmirror a"), ((0, 0), row))
                self.refuse(Book("peg p"), ((value, 1),))
                self.refuse(Book("peg p"), ((1, value),))

    def test_what_is_no_row_at_all(self):
        for value in all_values():
            if value != (1, 2):
                with self.subTest(value=value):
                    self.refuse(Book("peg p"), value)
                    self.refuse(Book("peg p"), (value,))
                    self.refuse(Book("mirror a"), (value,))
                    self.refuse(Book("mirror a\npeg p"), ((1, 0, 0), value))


def stretches(row, other):
    """Whether a mirror's row is another one of the same mirror."""
    one, more = told((row, other))
    return len(row) == 3 and all(one[i] * more[j] == one[j] * more[i] for i in range(3) for j in range(3))


class Asking(Refusals):
    def test_rows_by_names(self):
        drawing = draw(Book(KITE))
        for at, name in enumerate("apqrs"):
            self.assertEqual(drawing[name], drawing.rows[at])

    def test_no_names(self):
        drawing = draw(Book(KITE))
        for value in ["b", "", "peg", "a p", KITE] + no_strings():
            with self.subTest(value=value):
                self.assertIs(self.refused(NoName, value, lambda value=value: drawing[value]), value)

    def test_equal_drawings(self):
        rows = ((1, 0, 3), (0, 2, 4))
        one = Drawing(Book(TWO), rows)
        self.assertIs(one == Drawing(Book(TWO), rows), True)
        self.assertIs(one != Drawing(Book(TWO), rows), False)
        for other in (Drawing(Book(TWO), ((1, 0, 3), (0, 1, 2))), Drawing(Book(TWO), ((1, 0, 3), (0, 2, 5))),
                      Drawing(Book("mirror a\nmirror c"), rows)):
            self.assertIs(one == other, False)
            self.assertIs(one != other, True)

    def test_nothing_else_is_equal(self):
        one = draw(Book(TWO))
        for other in all_values() + [one.rows, one.book, Strange()]:
            self.assertIs(one == other, False)
            self.assertIs(other == one, False)
            self.assertIs(one != other, True)

    def test_other_operators(self):
        one = draw(Book(TWO))
        for other in all_values() + [one, Strange()]:
            for reckon in (lambda a, b: a + b, lambda a, b: a * b, lambda a, b: a - b, lambda a, b: a < b, lambda a,
                           b: a >= b,
                           lambda a, b: b in a):
                with self.assertRaises(TypeError):
                    reckon(one, other)
        for reckon in (lambda: -one, lambda: ~one, lambda: len(one)):
            with self.assertRaises(TypeError):
                reckon()


class Led(Refusals):
    def test_by_hand(self):
        two = Drawing(Book(TWO), ((1, 0, 3), (0, 2, 4)))
        kite = Drawing(Book(KITE), ((1, 0, 3), (1, 5), (5, 5), (3, 8), (3, 5)))
        cases = [
            (two, "", (1, 1), (1, 1)), (two, "a", (1, 1), (5, 1)), (two, "b", (1, 1), (1, 3)),
            (two, "a b", (1, 1), (5, 3)),
            (two, "a a", (1, 1), (1, 1)), (two, "a", (3, 7), (3, 7)), (two, "a", (Ratio(1, 2), 0), (Ratio(11, 2), 0)),
            (kite, "p", (0, 0), (2, 10)), (kite, "p q", (0, 0), (8, 0)), (kite, "q p", (0, 0), (-8, 0)),
            (kite, "p a", (0, 0), (4, 10)), (kite, "a p", (0, 0), (-4, 10)), (kite, "r", (3, 8), (3, 8)),
            (kite, "s s", (1, 0), (1, 0)),
            (Drawing(Book("mirror a"), ((1, 1, 0),)), "a", (2, 5), (-5, -2)),
            (Drawing(Book("mirror a"), ((3, 4, 0),)), "a", (5, 0), (Ratio(7, 5), Ratio(-24, 5))),
        ]
        for drawing, text, dot, end in cases:
            with self.subTest(text=text, dot=dot):
                found = drawing.led(Script(text), dot)
                self.assertEqual(found, told((end,))[0])
                self.assertEqual([type(found), type(found[0]), type(found[1])], [tuple, Ratio, Ratio])

    def test_by_school_geometry(self):
        for seed in range(200):
            book = any_book(seed, 2 + seed % 11)
            rows = any_rows(book.text, seed)
            script = any_row(book, seed)
            dot = (Fraction(seed % 7 - 3), Fraction(seed % 5, 3))
            with self.subTest(text=book.text, script=script):
                found = Drawing(book, as_rows(rows)).led(script, as_dot(dot))
                self.assertEqual(found, as_dot(led(rows, script.steps, dot)))

    def test_great_numbers(self):
        drawing = Drawing(Book(TWO), ((1, 0, HUGE), (HUGE, 1, Ratio(3, HUGE))))
        self.assertEqual(drawing.led(Script("a"), (Ratio(1, HUGE), HUGE)),
                         (Ratio(2 * HUGE * HUGE - 1, HUGE), Ratio(HUGE)))
        rows = {"a": (1, 0, HUGE), "b": (HUGE, 1, Fraction(3, HUGE))}
        dot = (Fraction(HUGE, 7), Fraction(1, HUGE))
        script = Script("a b").times(2)
        self.assertEqual(drawing.led(script, as_dot(dot)), as_dot(led(rows, script.steps, dot)))

    def test_no_scripts(self):
        drawing = draw(Book(KITE))
        for value in all_values() + [Script("a b"), Script("z"), Script("mirror"), "a", ("a",)]:
            if value not in (Script(""), Script("a")):
                with self.subTest(value=value):
                    self.assertIs(self.refused(BadScript, value, drawing.led, value, (1, 1)), value)
                    # Ahead of what is wrong with the dot.
                    self.assertIs(self.refused(BadScript, value, drawing.led, value, None), value)

    def test_no_dots(self):
        drawing = draw(Book(KITE))
        dots = [value for value in all_values() if value != (1, 2)]
        dots += [(1, 2, 3), [1, 2], (1,), (True, 1), (1, False), ("1", 2), (1, None), ((1, 2), 3), (1.5, 2), ((1, 2),)]
        for value in dots:
            for script in (Script(""), Script("a p")):
                with self.subTest(value=value):
                    self.assertIs(self.refused(BadDot, value, drawing.led, script, value), value)


class Draw(Refusals):
    def check(self, book):
        drawing = draw(book)
        self.assertIs(type(drawing), Drawing)
        self.assertEqual(drawing.book, book)
        self.assertEqual(Drawing(book, drawing.rows), drawing)
        self.assertEqual(draw(Book(book.text)), drawing)
        self.assertEqual([len(row) for row in drawing.rows], [2 + (name in book.mirrors) for name in book.names])
        self.assertEqual({type(number) for row in drawing.rows for number in row}, {Ratio})
        # Handed in to school geometry, it leads dots alike.
        rows = {name: tuple(Fraction(number.number, number.under) for number in drawing[name]) for name in book.names}
        script = any_row(book, len(book.text))
        self.assertEqual(drawing.led(script, (1, 2)), as_dot(led(rows, script.steps, (Fraction(1), Fraction(2)))))

    def test_all_forms(self):
        for text in list(FORMS.values()) + [CROSS, KITE, TWO]:
            with self.subTest(text=text):
                self.check(Book(text))

    def test_greatest_books(self):
        for text in GREATEST + ("\n".join(f"peg {name}" for name in "abcdefghijkl"),
                                "\n".join(["peg p"] + [f"mirror {name} through p" for name in "abcde"]
                                          + [f"peg {name} on a" for name in "qrstuv"])):
            self.check(Book(text))

    def test_any_books(self):
        for seed in range(200):
            self.check(any_book(seed, 1 + seed % 12))


class Document(unittest.TestCase):
    def test_example(self):
        two = Book("mirror a\nmirror b")
        drawn = Drawing(two, ((1, 0, 3), (0, 2, 4)))
        self.assertEqual(
            [drawn.led(Script('a'), (1, 1)), drawn.led(Script('a b'), (1, 1)), drawn['b'], draw(two).book == two],
            [(Ratio(5), Ratio(1)), (Ratio(5), Ratio(3)), (Ratio(0), Ratio(2), Ratio(4)), True])

    def test_long_numbers(self):
        self.assertEqual(Drawing(Book("peg p"), ((LONG, -LONG),)).led(Script("p"), (0, 0)),
                         (Ratio(2 * LONG), Ratio(-2 * LONG)))


if __name__ == "__main__":
    unittest.main()
