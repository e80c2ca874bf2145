import unittest
from fractions import Fraction

from loosemirrors.books import Book
from loosemirrors.drawings import Drawing, draw
from loosemirrors.errors import BadDot, BadNumber, BadScript, OtherBook
from loosemirrors.motions import Motion, table
from loosemirrors.ratios import Ratio
from loosemirrors.scripts import Script
from tests.refusals import Refusals
from tests.samples import LONG, Strange, all_values
from tests.shelf import CROSS, FORMS, GREATEST, KITE, TWO, any_book, any_row
from tests.sketches import any_rows, as_dot, as_rows, led, rows_of

HALF = Ratio(1, 2)

# Of each form: the four parts of the table of its NAME, made by hand.
BY_HAND = {
    "mirror NAME": (True, -1, (1,), (("z", False, (0,), 1),)),
    "mirror NAME through P": (True, -1, (1,), (("p", False, (0,), 1), ("p", True, (1,), 1))),
    "mirror NAME along A through P": (True, -1, (1,), (("p", False, (0,), 1), ("p", True, (1,), 1))),
    "mirror NAME across A through P": (True, 1, (1,), (("p", False, (0,), 1), ("p", True, (1,), -1))),
    "mirror NAME from A in B": (
        True, -1, (-1, 2), (("a", False, (-1, 1), -1), ("b", False, (-1, 1), 1), ("b", False, (0, 0), 1))),
    "mirror NAME is ROW": (
        True, -1, (2, -1), (("a", False, (0, 0), 1), ("a", False, (1, -1), 1), ("b", False, (1, -1), -1))),
    "peg NAME": (False, -1, (), (("z", False, (), 2),)),
    "peg NAME on A": (False, -1, (0,), (("z", False, (0,), 2),)),
    "peg NAME from P in A": (False, -1, (0,), (("a", False, (0,), 2), ("p", True, (1,), -2))),
    "peg NAME from P about Q": (False, -1, (), (("p", False, (), -2), ("q", False, (), 4))),
    "peg NAME amid P Q": (False, -1, (), (("p", False, (), 1), ("q", False, (), 1))),
    "peg NAME is ROW": (False, -1, (0,), (("p", False, (0,), 2),)),
}


def parts(motion):
    return motion.over, motion.sign, motion.powers, motion.terms


def told(over, sign, powers, terms):
    """Parts as they are told, shares as Ratios."""
    return over, sign, powers, tuple(term[:3] + (as_ratio(term[3]),) for term in terms)


def as_ratio(number):
    return number if type(number) is Ratio else Ratio(number)


class Tables(Refusals):
    def check(self, book, text, *four):
        motion = table(book, Script(text))
        self.assertIs(type(motion), Motion)
        self.assertEqual(parts(motion), told(*four))
        self.assertEqual(motion.book, book)
        self.assertEqual(len(motion), len(four[3]))
        self.check_kinds(motion)

    def check_kinds(self, motion):
        book = motion.book
        self.assertEqual([type(part) for part in parts(motion)], [bool, int, tuple, tuple])
        self.assertIn(motion.sign, (1, -1))
        self.assertEqual(len(motion.powers), len(book.loose))
        for term in motion.terms:
            self.assertEqual([type(part) for part in term], [str, bool, tuple, Ratio])
            source, is_flipped, powers, share = term
            self.assertEqual({type(power) for power in motion.powers + powers} | {int}, {int})
            self.assertEqual(len(powers), len(book.loose))
            self.assertNotEqual(share, Ratio(0))
            self.assertIn(book[source],
                          (f"mirror {source}", f"peg {source}", f"peg {source} on {book[source].split(' ')[-1]}"))
            if is_flipped:
                self.assertEqual(book[source], f"peg {source}")
        keys = [term[:3] for term in motion.terms]
        self.assertEqual(keys, sorted(keys))
        self.assertEqual(len(keys), len(set(keys)))

    def test_forms_by_hand(self):
        self.assertEqual(set(BY_HAND), set(FORMS))
        for form, four in BY_HAND.items():
            with self.subTest(form=form):
                self.check(Book(FORMS[form]), "z", *four)

    def test_rows_by_hand(self):
        two, kite, cross = Book(TWO), Book(KITE), Book(CROSS)
        cases = [
            (two, "", False, 1, (0, 0), ()), (two, "a a", False, 1, (0, 0), ()), (two, "a b b a", False, 1, (0, 0), ()),
            (two, "a", True, -1, (1, 0), (("a", False, (0, 0), 1),)),
            (two, "b", True, -1, (0, 1), (("b", False, (0, 0), 1),)),
            (two, "a b", False, 1, (-1, 1), (("a", False, (-1, 1), -1), ("b", False, (0, 0), 1))),
            (two, "b a", False, 1, (1, -1), (("a", False, (0, 0), 1), ("b", False, (1, -1), -1))),
            (kite, "p a", True, 1, (1,), (("a", False, (0,), 1), ("p", True, (1,), -2))),
            (kite, "a p", True, 1, (1,), (("a", False, (0,), -1), ("p", False, (0,), 2))),
            (kite, "r a", True, 1, (1,), (("a", False, (0,), -1), ("r", False, (0,), 2))),
            (kite, "a r", True, 1, (1,), (("a", False, (0,), -1), ("r", False, (0,), 2))),
            (kite, "p q", False, 1, (0,), (("a", False, (0,), 2), ("p", False, (0,), -2), ("p", True, (1,), -2))),
            (kite, "s", False, -1, (0,), (("a", False, (0,), 1), ("p", False, (0,), 1), ("p", True, (1,), -1))),
            (kite, "p r", False, 1, (0,), (("p", False, (0,), -2), ("r", False, (0,), 2))),
            (cross, "a b", False, -1, (0, 0), (("p", False, (0, 0), 2),)), (cross, "a b p", False, 1, (0, 0), ()),
            (cross, "c", True, -1, (0, 1), (("p", False, (0, 0), 1), ("p", True, (0, 1), 1))),
            (cross, "a c", False, 1, (-1, 1), (("p", False, (-1, 1), -1), ("p", False, (0, 0), 1))),
        ]
        for book, text, *four in cases:
            with self.subTest(text=text):
                self.check(book, text, *four)

    def test_shares_that_are_no_integers(self):
        pegs = Book("peg p\npeg q\npeg r amid p q\npeg s amid p r\nmirror a through s")
        self.check(pegs, "r", False, -1, (0,), (("p", False, (0,), 1), ("q", False, (0,), 1)))
        self.check(pegs, "s", False, -1, (0,), (("p", False, (0,), Ratio(3, 2)), ("q", False, (0,), HALF)))
        self.check(pegs, "a", True, -1, (1,), (("p", False, (0,), Ratio(3, 4)), ("p", True, (1,), Ratio(3, 4)),
                                             ("q", False, (0,), Ratio(1, 4)), ("q", True, (1,), Ratio(1, 4))))

    def test_halves_of_halves(self):
        text = "peg a\npeg b\n" + "\n".join(f"peg {new} amid {one} {old}" for old, one,
                                            new in zip("bcdefghij", "a" * 9, "cdefghijk"))
        book = Book(text + "\nmirror l through k")
        self.check(book, "l", True, -1, (1,), (
            ("a", False, (0,), Ratio(511, 512)), ("a", True, (1,), Ratio(511, 512)),
            ("b", False, (0,), Ratio(1, 512)), ("b", True, (1,), Ratio(1, 512))))
        self.check(book, "k b", False, 1, (0,),
                   (("a", False, (0,), Ratio(-511, 256)), ("b", False, (0,), Ratio(511, 256))))

    def test_halves_on_mirrors(self):
        text = "mirror a\npeg p on a\nmirror b through p\npeg q on b\npeg r amid p q\nmirror c through r\npeg s on c"
        text += "\npeg t amid s r\nmirror d through t\npeg u on d\npeg v amid u p\nmirror e across d through v"
        book = Book(text)
        for seed in range(20):
            rows = any_rows(text, seed)
            drawing = Drawing(book, as_rows(rows))
            script = any_row(book, seed)
            found = table(book, script)
            self.check_kinds(found)
            self.assertEqual(found.at(drawing, (1, 2)), as_dot(led(rows, script.steps, (Fraction(1), Fraction(2)))))

    def test_names_stand_by_letters_in_terms(self):
        found = table(Book("peg zz\npeg z\npeg b\npeg ab\npeg aa"), Script("zz z b ab aa"))
        self.assertEqual([term[0] for term in found.terms], ["aa", "ab", "b", "z", "zz"])
        self.assertEqual([term[3] for term in found.terms], [Ratio(2), Ratio(-2), Ratio(2), Ratio(-2), Ratio(2)])

    def test_powers_stand_in_the_sequence_of_lines(self):
        found = table(Book("mirror z\nmirror a\npeg p\nmirror m through p"), Script("z a m"))
        self.assertEqual((found.over, found.sign, found.powers), (True, -1, (1, -1, 1)))

    def test_any_tables(self):
        """By school geometry each leads dots as the script does: and there is but one such table."""
        for seed in range(250):
            book = any_book(seed, 2 + seed % 11)
            script = any_row(book, seed)
            motion = table(book, script)
            self.check_kinds(motion)
            self.assertEqual(motion.over, len([name for name in script.steps if name in book.mirrors]) % 2 == 1)
            for more in range(2):
                rows = any_rows(book.text, seed + 1000 * more)
                dot = (Fraction(seed % 7 - 3), Fraction(seed % 5, 3))
                drawing = Drawing(book, as_rows(rows))
                with self.subTest(text=book.text, script=script):
                    self.assertEqual(motion.at(drawing, as_dot(dot)), as_dot(led(rows, script.steps, dot)))
                    self.assertEqual(by_terms(motion, rows, dot), led(rows, script.steps, dot))

    def test_no_scripts(self):
        book = Book(KITE)
        for value in all_values() + [Script("a b"), Script("z"), Script("mirror"), ("a",), ["a"], "p q"]:
            if value not in (Script(""), Script("a")):
                with self.subTest(value=value):
                    self.assertIs(self.refused(BadScript, value, table, book, value), value)

    def test_names_of_the_arguments(self):
        motion = table(script=Script("a b"), book=Book(TWO))
        drawing = Drawing(Book(TWO), ((1, 0, 3), (0, 2, 4)))
        self.assertEqual(motion.times(many=2), motion * motion)
        self.assertEqual(motion.at(dot=(1, 1), drawing=drawing), (Ratio(5), Ratio(3)))


def by_terms(motion, rows, dot):
    """Where the told table leads a dot, reckoned as the document tells it."""
    spins = []
    for name in motion.book.loose:
        m, n, _ = rows[name]
        square = Fraction(m * m + n * n)
        spins.append(((m * m - n * n) / square, 2 * m * n / square))
    x, y = spun(spins, motion.powers, flipped(dot) if motion.over else dot)
    x, y = motion.sign * x, motion.sign * y
    for source, is_flipped, powers, share in motion.terms:
        place = rows[source] if source in motion.book.pegs else led(rows, [source], (Fraction(0), Fraction(0)))
        more = spun(spins, powers, flipped(place) if is_flipped else place)
        x += Fraction(share.number, share.under) * more[0]
        y += Fraction(share.number, share.under) * more[1]
    return x, y


def flipped(dot):
    return dot[0], -dot[1]


def spun(spins, powers, dot):
    for (cos, sin), power in zip(spins, powers):
        for _ in range(abs(power)):
            turn = sin if power > 0 else -sin
            dot = cos * dot[0] - turn * dot[1], turn * dot[0] + cos * dot[1]
    return dot


class Together(Refusals):
    def test_one_and_other(self):
        for seed in range(150):
            book = any_book(seed, 2 + seed % 11)
            one, other = any_row(book, seed, 12), any_row(book, seed + 1, 12)
            with self.subTest(text=book.text, one=one, other=other):
                found = table(book, one) * table(book, other)
                self.assertIs(type(found), Motion)
                self.assertEqual(parts(found), parts(table(book, one * other)))
                self.assertEqual(found, table(book, one * other))

    def test_more_than_scripts_can_have(self):
        book = Book(TWO)
        long = table(book, Script("a b").times(12))
        self.assertEqual((long * long).powers, (-24, 24))
        self.assertEqual(long * long * ~long, long)

    def test_contrary(self):
        for seed in range(150):
            book = any_book(seed, 2 + seed % 11)
            script = any_row(book, seed)
            motion = table(book, script)
            with self.subTest(text=book.text, script=script):
                self.assertIs(type(~motion), Motion)
                self.assertEqual(parts(~motion), parts(table(book, ~script)))
                self.assertEqual(~~motion, motion)
                self.assertEqual(motion * ~motion, table(book, Script("")))
                self.assertEqual(~motion * motion, table(book, Script("")))

    def test_times(self):
        for text, row in ((TWO, "a b"), (TWO, "a"), (KITE, "p a"), (KITE, "p r"), (CROSS, "a c"), (CROSS, "a b"),
                          (TWO, "")):
            book = Book(text)
            motion = table(book, Script(row))
            built = table(book, Script(""))
            for many in range(31):
                with self.subTest(row=row, many=many):
                    found = motion.times(many)
                    self.assertIs(type(found), Motion)
                    self.assertEqual(parts(found), parts(built))
                    if len(row.split(" ")) * many <= 24:
                        self.assertEqual(found, table(book, Script(row).times(many)))
                built = built * motion

    def test_times_by_hand(self):
        found = table(Book(TWO), Script("a b")).times(30)
        self.assertEqual((found.over, found.sign, found.powers, len(found)), (False, 1, (-30, 30), 60))
        self.assertEqual(found.terms[0], ("a", False, (-30, 30), Ratio(-1)))
        self.assertEqual(found.terms[29], ("a", False, (-1, 1), Ratio(-1)))
        self.assertEqual(found.terms[30], ("b", False, (-29, 29), Ratio(1)))
        self.assertEqual(found.terms[59], ("b", False, (0, 0), Ratio(1)))
        found = table(Book("peg p\npeg q"), Script("p q")).times(30)
        self.assertEqual(parts(found), told(False, 1, (), (("p", False, (), -60), ("q", False, (), 60))))
        self.assertEqual(parts(found.times(30)), told(False, 1, (), (("p", False, (), -1800), ("q", False, (), 1800))))

    def test_times_others(self):
        motion = table(Book(TWO), Script("a b"))
        for value in (-1, 31, 32, -30, LONG, -LONG, True, False, Ratio(2), Ratio(1), "2", None, (2,), [2], 1.0):
            with self.subTest(value=value):
                self.assertIs(self.refused(BadNumber, value, motion.times, value), value)
        for value in all_values():
            if type(value) is not int:
                self.assertIs(self.refused(BadNumber, value, motion.times, value), value)

    def test_books_made_apart(self):
        one, other = table(Book(TWO), Script("a")), table(Book("mirror a").told("mirror b"), Script("b"))
        self.assertEqual(one * other, table(Book(TWO), Script("a b")))
        self.assertEqual(one.at(draw(Book(TWO)), (1, 1)), draw(Book(TWO)).led(Script("a"), (1, 1)))

    def test_unlike_books(self):
        one = table(Book(TWO), Script("a"))
        for text in ("mirror a", "mirror b\nmirror a", TWO + "\nmirror c", "mirror a\nmirror c", KITE):
            other = table(Book(text), Script("a"))
            found = self.refused(OtherBook, other, lambda other=other: one * other)
            self.assertIs(found, other)
            found = self.refused(OtherBook, one, lambda other=other: other * one)
            self.assertIs(found, one)

    def test_other_operands(self):
        motion = table(Book(TWO), Script("a b"))
        others = [value for value in all_values() if type(value) is not Motion]
        for other in others + [Strange(), 2.5, Book(TWO), draw(Book(TWO))]:
            with self.subTest(other=other):
                for reckon in (lambda a, b: a * b, lambda a, b: b * a, lambda a, b: a + b, lambda a, b: a - b, lambda a,
                               b: a < b,
                               lambda a, b: a >= b):
                    with self.assertRaises(TypeError):
                        reckon(motion, other)
        for reckon in (lambda: motion + motion, lambda: -motion, lambda: motion < motion, lambda: motion[0],
                       lambda: "a" in motion):
            with self.assertRaises(TypeError):
                reckon()

    def test_operands_stay_as_they_were(self):
        one, other = table(Book(KITE), Script("a p")), table(Book(KITE), Script("r s"))
        was = parts(one), parts(other)
        for _ in (one * other, ~one, one.times(7), one == other, one.at(draw(Book(KITE)), (1, 2))):
            self.assertEqual((parts(one), parts(other)), was)


class Equal(unittest.TestCase):
    def test_equal_motions(self):
        for text, one, other in ((TWO, "a b", "a b"), (TWO, "a a", ""), (CROSS, "a b", "b a"), (CROSS, "a b", "p"),
                                 (CROSS, "a b c", "c b a"),
                                 (KITE, "p q a", "a q p"), (KITE, "a r", "r a"), (TWO, "a b b a", "b b")):
            self.assertIs(table(Book(text), Script(one)) == table(Book(text), Script(other)), True)
            self.assertIs(table(Book(text), Script(one)) != table(Book(text), Script(other)), False)

    def test_unlike_motions(self):
        for text, one, other in ((TWO, "a b", "b a"), (TWO, "a", "b"), (TWO, "a", ""), (KITE, "p", "q"),
                                 (KITE, "p r", "q r"), (CROSS, "a c", "c a")):
            self.assertIs(table(Book(text), Script(one)) == table(Book(text), Script(other)), False)
            self.assertIs(table(Book(text), Script(one)) != table(Book(text), Script(other)), True)

    def test_unlike_books(self):
        self.assertNotEqual(table(Book("mirror a"), Script("")), table(Book("mirror b"), Script("")))
        self.assertNotEqual(table(Book("peg p"), Script("p")), table(Book("peg p\npeg q"), Script("p")))

    def test_nothing_else_is_equal(self):
        one = table(Book(TWO), Script("a"))
        for other in all_values() + [parts(one), Strange(), Script("a"), Book(TWO)]:
            self.assertIs(one == other, False)
            self.assertIs(other == one, False)
            self.assertIs(one != other, True)


class At(Refusals):
    def test_beside_led(self):
        for text in list(FORMS.values()) + [TWO, CROSS, KITE] + list(GREATEST):
            book = Book(text)
            drawing = draw(book)
            for seed in range(6):
                script = any_row(book, seed)
                for dot in ((0, 0), (1, 2), (Ratio(-3, 7), Ratio(1, 10 ** 300)), (LONG, -LONG)):
                    with self.subTest(text=text, script=script, dot=dot):
                        found = table(book, script).at(drawing, dot)
                        self.assertEqual(found, drawing.led(script, dot))
                        self.assertEqual([type(found), type(found[0]), type(found[1])], [tuple, Ratio, Ratio])

    def test_where_sources_lie_by_chance(self):
        drawing = Drawing(Book(KITE), ((1, 0, 0), (0, 0), (0, 0), (0, 0), (0, 0)))
        for seed in range(10):
            script = any_row(drawing.book, seed)
            self.assertEqual(table(drawing.book, script).at(drawing, (1, 2)), drawing.led(script, (1, 2)))

    def test_great_numbers(self):
        text = "mirror a\npeg p on a\nmirror b through p\nmirror c from a in b"
        huge = 10 ** 899 + 3
        numbers = iter([huge, huge - 2, Fraction(huge, 7), Fraction(3, huge), huge + 5, 2 * huge + 1])
        script = Script("a b c p")
        for rows in (any_rows(text, 0), rows_of(text, lambda: Fraction(next(numbers)))):
            dot = (Fraction(huge, 3), Fraction(1, huge))
            found = table(Book(text), script).at(Drawing(Book(text), as_rows(rows)), as_dot(dot))
            self.assertEqual(found, as_dot(led(rows, script.steps, dot)))

    def test_unlike_books(self):
        motion = table(Book(TWO), Script("a"))
        for text in ("mirror a", "mirror b\nmirror a", KITE):
            drawing = draw(Book(text))
            self.assertIs(self.refused(OtherBook, drawing, motion.at, drawing, (1, 1)), drawing)
            # Ahead of what is wrong with the dot.
            self.assertIs(self.refused(OtherBook, drawing, motion.at, drawing, None), drawing)

    def test_no_dots(self):
        motion = table(Book(TWO), Script("a"))
        dots = [value for value in all_values() if value != (1, 2)]
        for value in dots + [(1, 2, 3), [1, 2], (True, 1), (1, False), ("1", 2), (1, None), ((1, 2), 3)]:
            with self.subTest(value=value):
                self.assertIs(self.refused(BadDot, value, motion.at, draw(Book(TWO)), value), value)


class Greatest(unittest.TestCase):
    def test_many_times(self):
        for text in GREATEST:
            book = Book(text)
            names = book.names
            rows = (f"{names[-1]} {names[-2]}", f"{names[-1]} {names[0]}",
                    f"{names[-3]} {names[-2]} {names[-1]} {names[-4]}")
            for row in rows:
                script = Script(" ".join((row.split(" ") * 24)[:24]))
                motion = table(book, script)
                drawing = draw(book)
                with self.subTest(text=text, script=script):
                    end = (1, 2)
                    for _ in range(3):
                        end = drawing.led(script, end)
                    self.assertEqual(motion.times(3).at(drawing, (1, 2)), end)
                    many = motion.times(30)
                    self.assertEqual(many, motion.times(15) * motion.times(15))
                    self.assertEqual(many * ~motion, motion.times(29))
                    self.assertEqual(many.at(drawing, (1, 2)), motion.times(27).at(drawing, end))


class Document(unittest.TestCase):
    def test_example(self):
        two = Book('mirror a\nmirror b')
        drawn = Drawing(two, ((1, 0, 3), (0, 2, 4)))
        cross = Book('peg p\nmirror a through p\nmirror b across a through p\nmirror c through p')
        turn = table(two, Script('a b'))
        self.assertEqual([turn.over, turn.sign, turn.powers, turn.terms],
                         [False, 1, (-1, 1), (('a', False, (-1, 1), Ratio(-1)), ('b', False, (0, 0), Ratio(1)))])
        self.assertEqual([turn.at(drawn, (1, 1)), ~turn == table(two, Script('b a')), table(cross, Script('a b')).terms,
                          len(table(cross, Script('c')))],
                         [(Ratio(5), Ratio(3)), True, (('p', False, (0, 0), Ratio(2)),), 2])


if __name__ == "__main__":
    unittest.main()
