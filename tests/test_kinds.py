import unittest
from fractions import Fraction

from loosemirrors.books import Book
from loosemirrors.drawings import Drawing, draw
from loosemirrors.errors import BadScript
from loosemirrors.kinds import dot_apart, kind, same, shows_kind, shows_same
from loosemirrors.leads import joined_leads, lead_of, led_by
from loosemirrors.motions import table
from loosemirrors.ratios import Ratio
from loosemirrors.scripts import Script
from loosemirrors.spots import spot_of
from tests.refusals import Refusals
from tests.samples import all_values, nested
from tests.shelf import CROSS, FORMS, GREATEST, KITE, TWO, any_book, any_row
from tests.sketches import any_rows, as_dot, as_rows, led

THREE = TWO + "\nmirror c"
PEGS = "peg p\npeg q\npeg r amid p q"
RAILS = "mirror a\npeg p\nmirror b along a through p\nmirror c across a through p"

KINDS = (
    (TWO, "", "nothing"), (TWO, "a a", "nothing"), (TWO, "a", "mirroring"), (TWO, "a b", "turn"),
    (TWO, "a b a", "mirroring"),
    (TWO, "a b a b", "turn"), (TWO, "a b a b a", "mirroring"), (THREE, "a b c", "glide"),
    (THREE, "a b c a b c", "shift"),
    (THREE, "a b c b a", "mirroring"), (CROSS, "a b", "half turn"), (CROSS, "a c", "turn"),
    (CROSS, "a b c", "mirroring"),
    (CROSS, "a p", "mirroring"), (CROSS, "a b p", "nothing"), (CROSS, "p", "half turn"), (CROSS, "p p", "nothing"),
    (PEGS, "p q", "shift"), (PEGS, "p r r q", "shift"), (PEGS, "p r q r", "nothing"), (PEGS, "p q r", "half turn"),
    (KITE, "a p", "glide"), (KITE, "p a", "glide"), (KITE, "a r", "mirroring"), (KITE, "p q", "shift"),
    (KITE, "p a q a", "nothing"),
    (KITE, "p a p a", "shift"), (KITE, "p q a", "mirroring"), (KITE, "p r", "shift"), (KITE, "p r q", "half turn"),
    (RAILS, "a b", "shift"), (RAILS, "a c", "half turn"), (RAILS, "a b c", "glide"), (RAILS, "a c b", "glide"),
    (RAILS, "a b a", "mirroring"), (RAILS, "b c p", "nothing"),
    (RAILS, "a c p", "shift"), (RAILS, "a c a c", "nothing"), (RAILS, "a p", "glide"), (RAILS, "a b a b", "shift"),
)

# A book, a row, what it is by chance and rows of a drawing in which it is just this.
LESSER = (
    (TWO, "a b", "turn", "half turn", ((1, 0, 3), (0, 1, 4))), (TWO, "a b", "turn", "shift", ((1, 0, 3), (2, 0, 4))),
    (TWO, "a b", "turn", "nothing", ((1, 0, 3), (2, 0, 6))), (TWO, "a b", "turn", "turn", ((1, 0, 3), (1, 1, 6))),
    (TWO, "a b a b", "turn", "nothing", ((1, 0, 3), (0, 1, 4))),
    (TWO, "a b a b", "turn", "half turn", ((1, 0, 3), (1, 1, 4))),
    (THREE, "a b c", "glide", "mirroring", ((1, 0, 0), (0, 1, 0), (1, 1, 0))),
    (THREE, "a b c", "glide", "mirroring", ((1, 0, 0), (1, 0, 1), (1, 0, 5))),
    (THREE, "a b c", "glide", "glide", ((1, 0, 0), (0, 1, 0), (1, 1, 1))),
    (KITE, "a p", "glide", "mirroring", ((1, 0, 3), (3, 5), (3, 5), (3, 8), (3, 5))),
    (PEGS, "p q", "shift", "nothing", ((1, 1), (1, 1), (1, 1))),
    (PEGS, "p q", "shift", "shift", ((1, 1), (1, 2), (1, Ratio(3, 2)))),
    (RAILS, "a b", "shift", "nothing", ((1, 0, 3), (3, 1), (1, 0, 3), (0, 1, 1))),
    (THREE, "a b c a b c", "shift", "nothing", ((1, 0, 0), (0, 1, 0), (1, 1, 0))),
)

# As many pegs as a book can have.
MANY = Book("\n".join(f"peg {name}" for name in "abcdefghijkl"))

WORDS = ("nothing", "mirroring", "half turn", "shift", "turn", "glide")


def by_geometry(rows, steps):
    """The kind of a row in a drawing, by where three dots come to."""
    dots = [(Fraction(0), Fraction(0)), (Fraction(1), Fraction(0)), (Fraction(0), Fraction(1))]
    ends = [led(rows, steps, dot) for dot in dots]
    again = [led(rows, steps, end) for end in ends]
    ways = {(end[0] - dot[0], end[1] - dot[1]) for dot, end in zip(dots, ends)}
    middles = {(end[0] + dot[0], end[1] + dot[1]) for dot, end in zip(dots, ends)}
    if len([name for name in steps if len(rows[name]) == 3]) % 2 == 1:
        return "mirroring" if again == dots else "glide"
    if len(ways) == 1:
        return "nothing" if ways == {(0, 0)} else "shift"
    return "half turn" if len(middles) == 1 else "turn"


def plain_rows(drawing):
    """Rows of a drawing by names, in Fractions."""
    return {name: tuple(Fraction(number.number,
                                 number.under) for number in drawing[name]) for name in drawing.book.names}


class Kind(Refusals):
    def check(self, book, script, word=None):
        found = kind(book, script)
        self.assertIs(type(found), tuple)
        told, drawing = found
        self.assertIn(told, WORDS)
        if word is not None:
            self.assertEqual(told, word)
        self.assertIs(type(drawing), Drawing)
        self.assertEqual(drawing.book, book)
        self.assertEqual(Drawing(book, drawing.rows), drawing)
        self.assertEqual(by_geometry(plain_rows(drawing), script.steps), told)
        self.assertIs(shows_kind(book, script, found), True)
        self.assertEqual(kind(book, script), found)
        return told

    def test_by_hand(self):
        for text, row, word in KINDS:
            with self.subTest(text=text, row=row):
                self.check(Book(text), Script(row), word)

    def test_forms(self):
        for form, text in FORMS.items():
            self.check(Book(text), Script("z"), "mirroring" if form.startswith("mirror") else "half turn")

    def test_any_scripts(self):
        lesser = {"shift": ("nothing",), "turn": ("half turn", "shift", "nothing"), "glide": ("mirroring",)}
        for seed in range(250):
            book = any_book(seed, 2 + seed % 11)
            script = any_row(book, seed, 3 + seed % 22)
            with self.subTest(text=book.text, script=script):
                word = self.check(book, script)
                for more in range(3):
                    here = by_geometry(any_rows(book.text, seed + 1000 * more), script.steps)
                    self.assertIn(here, (word,) + lesser.get(word, ()))

    def test_where_the_first_drawing_is_one_by_chance(self):
        # In the drawing that draw tells b, c, j and i are corners, in turn, of a parallelogram.
        script = Script("b c j i")
        self.assertEqual(draw(MANY).led(script, (1, 2)), (Ratio(1), Ratio(2)))
        self.check(MANY, script, "shift")

    def test_it_is_read_from_the_table(self):
        for seed in range(150):
            book = any_book(seed, 2 + seed % 11)
            script = any_row(book, seed)
            motion = table(book, script)
            if motion.over:
                word = "glide" if len(motion * motion) else "mirroring"
            elif any(motion.powers):
                word = "turn"
            elif motion.sign == -1:
                word = "half turn"
            else:
                word = "shift" if len(motion) else "nothing"
            self.assertEqual(kind(book, script)[0], word)

    def test_no_scripts(self):
        book = Book(KITE)
        for value in all_values() + [Script("a b"), Script("z"), ("a",)]:
            if value not in (Script(""), Script("a")):
                with self.subTest(value=value):
                    self.assertIs(self.refused(BadScript, value, kind, book, value), value)
                    self.assertIs(self.refused(BadScript, value, shows_kind, book, value, ("turn", draw(book))), value)
                    self.assertIs(self.refused(BadScript, value, shows_kind, book, value, None), value)

    def test_names_of_the_arguments(self):
        found = kind(script=Script("a b"), book=Book(TWO))
        self.assertIs(shows_kind(value=found, script=Script("a b"), book=Book(TWO)), True)

    def test_greatest(self):
        for text in GREATEST:
            book = Book(text)
            for start in range(12):
                self.check(book, Script(" ".join((book.names * 3)[start:start + 24])))


class ShowsKind(Refusals):
    def test_drawings_in_which_it_is_of_a_lesser_kind(self):
        for text, row, word, here, rows in LESSER:
            book, script = Book(text), Script(row)
            drawing = Drawing(book, rows)
            with self.subTest(text=text, row=row, rows=rows):
                self.assertEqual(kind(book, script)[0], word)
                for told in WORDS:
                    self.assertIs(shows_kind(book, script, (told, drawing)), told == word and here == word)

    def test_values_made_by_hand(self):
        for text, row, word in KINDS:
            book, script = Book(text), Script(row)
            for seed in range(3):
                rows = any_rows(text, seed)
                drawing = Drawing(Book(text), as_rows(rows))
                right = by_geometry(rows, script.steps) == word
                for told in WORDS:
                    self.assertIs(shows_kind(book, script, (told, drawing)), right and told == word)

    def test_other_values(self):
        book, script = Book(TWO), Script("a b")
        word, drawing = kind(book, script)
        self.assertIs(shows_kind(book, script, (word, drawing)), True)
        others = all_values() + [
            [word, drawing], (word,), (drawing, word), (word, drawing, drawing), (word, drawing.rows), (word, None),
            word, drawing,
            (word, draw(Book("mirror b\nmirror a"))), (word, draw(Book(TWO + "\npeg p"))), (word, book),
            ("Turn", drawing),
            ("half turn", drawing), (None, drawing), (True, drawing), ([word], drawing), ((word,), drawing),
            (word, [drawing]),
            ((word, drawing),), (word, (drawing,)), {word: drawing}, ("turn ", drawing), ("", drawing),
            (drawing, drawing),
            (nested(29), drawing), (word, nested(29)), (script, drawing),
        ]
        for value in others:
            with self.subTest(value=value):
                self.assertIs(shows_kind(book, script, value), False)


class Same(Refusals):
    def check(self, book, one, other):
        found = same(book, one, other)
        self.assertIs(type(found), tuple)
        self.assertEqual(same(book, one, other), found)
        self.assertIs(shows_same(book, one, other, found), True)
        if found == ("same",):
            return "same"
        word, drawing, dot = found
        self.assertEqual(word, "apart")
        self.assertIs(type(drawing), Drawing)
        self.assertEqual(drawing.book, book)
        self.assertEqual([type(dot), type(dot[0]), type(dot[1]), len(dot)], [tuple, Ratio, Ratio, 2])
        plain = tuple(Fraction(number.number, number.under) for number in dot)
        rows = plain_rows(drawing)
        self.assertNotEqual(led(rows, one.steps, plain), led(rows, other.steps, plain))
        self.assertEqual(Drawing(book, drawing.rows), drawing)
        return word

    def test_by_hand(self):
        cases = (
            (CROSS, "a b c", "c b a", "same"), (TWO, "a b", "b a", "apart"), (TWO, "a", "a", "same"),
            (TWO, "a a", "", "same"),
            (TWO, "", "", "same"), (TWO, "a", "b", "apart"), (TWO, "a", "", "apart"), (CROSS, "a b", "p", "same"),
            (CROSS, "b a", "p", "same"), (CROSS, "a c", "c a", "apart"), (CROSS, "a c", "b c", "apart"),
            (CROSS, "a p", "b", "same"),
            (KITE, "a p a", "q", "same"), (KITE, "p a", "a q", "same"), (KITE, "a r", "r a", "same"),
            (KITE, "a p", "p a", "apart"),
            (KITE, "p s", "s q", "same"), (KITE, "p r", "r q", "apart"), (PEGS, "p q", "q p", "apart"),
            (PEGS, "p r", "r q", "same"),
            (PEGS, "p q r", "r q p", "same"), (PEGS, "p q", "p r p r", "same"), (RAILS, "a b", "b a", "apart"),
            (RAILS, "a c", "c a", "same"),
            (THREE, "a b c a b c", "a b c", "apart"), (THREE, "a b a c a b a", "a b a b a c a b a b a", "apart"),
            (THREE, "a b a b c c", "a b a b", "same"),
            (THREE, "a b c a b c b a c b a c", "c a b c a b b c a b c a", "apart"),
        )
        for text, one, other, word in cases:
            with self.subTest(text=text, one=one, other=other):
                self.assertEqual(self.check(Book(text), Script(one), Script(other)), word)
                self.assertEqual(self.check(Book(text), Script(other), Script(one)), word)

    def test_shifts_change_places(self):
        book = Book("mirror a\nmirror b\nmirror c\nmirror d\npeg p\npeg q\npeg r")
        shift, other = Script("a b c a b c"), Script("b c d b c d")
        self.assertEqual(self.check(book, shift * other, other * shift), "same")
        self.assertEqual(self.check(book, Script("p q q r"), Script("q r p q")), "same")
        self.assertEqual(self.check(book, shift * Script("p q"), Script("p q") * shift), "same")
        self.assertEqual(self.check(book, shift * Script("a b"), Script("a b") * shift), "apart")

    def test_where_the_first_drawing_is_one_by_chance(self):
        self.assertEqual(self.check(MANY, Script("b c j i"), Script("")), "apart")
        self.assertEqual(self.check(MANY, Script("b c"), Script("i j")), "apart")

    def test_dots_apart(self):
        flat, steep, still = lead_of("mirror", (0, 1, 0)), lead_of("mirror", (1, 0, 0)), joined_leads([])
        for one, other in ((flat, steep), (flat, still), (steep, still), (lead_of("peg", (0, 0)), flat),
                           (lead_of("peg", (0, 0)), steep),
                           (lead_of("peg", (0, 1)), still), (lead_of("mirror", (1, 0, 1)), still),
                           (lead_of("mirror", (0, 1, 1)), still),
                           (lead_of("mirror", (1, 1, 1)), still),
                           (lead_of("mirror", (1, -1, 0)), lead_of("mirror", (1, 0, 0)))):
            for first, second in ((one, other), (other, one)):
                spot = spot_of(dot_apart(first, second))
                self.assertNotEqual(led_by(first, spot), led_by(second, spot))

    def test_any_scripts(self):
        for seed in range(250):
            book = any_book(seed, 2 + seed % 11)
            one, other = any_row(book, seed, 1 + seed % 6), any_row(book, seed + 1, 1 + seed % 5)
            with self.subTest(text=book.text, one=one, other=other):
                word = self.check(book, one, other)
                self.assertEqual(word == "same", table(book, one) == table(book, other))
                if word == "same":
                    for more in range(3):
                        rows = any_rows(book.text, seed + 1000 * more)
                        for dot in ((Fraction(1), Fraction(2)), (Fraction(-3, 7), Fraction(0))):
                            self.assertEqual(led(rows, one.steps, dot), led(rows, other.steps, dot))

    def test_no_scripts(self):
        book = Book(KITE)
        right, drawing = Script("a"), draw(book)
        for value in all_values() + [Script("a b"), Script("z"), ("a",)]:
            if value not in (Script(""), Script("a")):
                with self.subTest(value=value):
                    for other in (right, None, Script("b"), 3):
                        self.assertIs(self.refused(BadScript, value, same, book, value, other), value)
                        self.assertIs(self.refused(BadScript, value, shows_same, book, value, other, ("same",)), value)
                    self.assertIs(self.refused(BadScript, value, same, book, right, value), value)
                    self.assertIs(self.refused(BadScript, value, shows_same, book, right, value,
                                               ("apart", drawing, (1, 1))), value)

    def test_names_of_the_arguments(self):
        found = same(other=Script("b a"), one=Script("a b"), book=Book(TWO))
        self.assertIs(shows_same(value=found, other=Script("b a"), one=Script("a b"), book=Book(TWO)), True)

    def test_greatest(self):
        for text in GREATEST:
            book = Book(text)
            long = Script(" ".join((book.names * 2)[:24]))
            self.assertEqual(self.check(book, long, ~long), "apart")
            self.assertEqual(self.check(book, long, Script(long.text)), "same")
            around = Script(" ".join(book.names + book.names[::-1]))
            self.assertEqual(self.check(book, around, Script("")), "same")
            self.assertEqual(self.check(book, long, around), "apart")


class ShowsSame(Refusals):
    def test_same(self):
        book = Book(CROSS)
        drawing = draw(book)
        one, other = Script("a b c"), Script("c b a")
        self.assertIs(shows_same(book, one, other, ("same",)), True)
        for value in (("apart", drawing, (1, 1)), ("apart",), ("same", drawing), "same", ["same"], ("Same",),
                      ("same", "same"), (True,),
                      ("same", drawing, (1, 1)), (["same"],), (("same",),), ()):
            self.assertIs(shows_same(book, one, other, value), False)

    def test_apart(self):
        book = Book(TWO)
        one, other = Script("a b"), Script("b a")
        self.assertIs(shows_same(book, one, other, ("same",)), False)
        slant = ((1, 0, 0), (1, 1, 0))
        rail = ((1, 0, 0), (1, 0, 2))
        for rows, dot, right in (
            (((1, 0, 3), (0, 2, 4)), (1, 1), False), (slant, (1, 1), True), (slant, (0, 0), False),
            (slant, (Ratio(1, 2), 0), True),
            (slant, (Ratio(0), Ratio(0)), False), (rail, (7, 9), True), (((1, 0, 3), (2, 0, 6)), (1, 1), False),
            (slant, (Ratio(1, 10 ** 300), Ratio(0)), True),
        ):
            with self.subTest(rows=rows, dot=dot):
                self.assertIs(shows_same(book, one, other, ("apart", Drawing(Book(TWO), rows), dot)), right)

    def test_rows_that_do_alike_by_chance(self):
        book = Book(KITE)
        one, other = Script("a p"), Script("p a")
        chance = Drawing(book, ((1, 0, 3), (3, 5), (3, 5), (3, 8), (3, 5)))
        plain = Drawing(book, ((1, 0, 3), (1, 5), (5, 5), (3, 8), (3, 5)))
        for dot in ((0, 0), (1, 0), (0, 1), (-3, Ratio(5, 7))):
            self.assertIs(shows_same(book, one, other, ("apart", chance, dot)), False)
            self.assertIs(shows_same(book, one, other, ("apart", plain, dot)), True)

    def test_other_values(self):
        book = Book(TWO)
        one, other = Script("a b"), Script("b a")
        word, drawing, dot = same(book, one, other)
        self.assertIs(shows_same(book, one, other, (word, drawing, dot)), True)
        self.assertIs(shows_same(book, one, other, (word, Drawing(Book(TWO), drawing.rows), dot)), True)
        others = all_values() + [
            [word, drawing, dot], (word, drawing), (word, drawing, dot, dot), (word, dot, drawing),
            (word, drawing, list(dot)),
            ("same", drawing, dot), ("Apart", drawing, dot), (word, None, dot), (word, drawing, None),
            (word, drawing.rows, dot),
            (word, draw(Book("mirror b\nmirror a")), dot), (word, draw(Book(TWO + "\nmirror c")), dot),
            (word, drawing, dot[:1]),
            (word, drawing, dot + dot), (word, drawing, (True, 1)), (word, drawing, ("1", 1)),
            (word, drawing, (1, None)),
            (word, [drawing], dot), ([word], drawing, dot), (None, drawing, dot), word, drawing, dot,
            (word, drawing, (dot,)),
            (nested(29), drawing, dot), (word, nested(29), dot), (word, drawing, nested(29)), (word, drawing, (1.5, 2)),
        ]
        for value in others:
            with self.subTest(value=value):
                self.assertIs(shows_same(book, one, other, value), False)


class Document(unittest.TestCase):
    def test_example(self):
        two = Book('mirror a\nmirror b')
        drawn = Drawing(two, ((1, 0, 3), (0, 2, 4)))
        cross = Book('peg p\nmirror a through p\nmirror b across a through p\nmirror c through p')
        self.assertEqual([kind(cross, Script(text))[0] for text in ('a b', 'a c', 'a b c', 'a p', 'a a', 'a b p')],
                         ['half turn', 'turn', 'mirroring', 'mirroring', 'nothing', 'nothing'])
        self.assertEqual([kind(two.told('mirror c'), Script(text))[0] for text in ('a b c', 'a b c a b c', 'a b')],
                         ['glide', 'shift', 'turn'])
        self.assertEqual([same(cross, Script('a b c'), Script('c b a')), same(two, Script('a b'), Script('b a'))[0]],
                         [('same',), 'apart'])
        self.assertIs(shows_same(two, Script('a b'), Script('b a'), ('apart', drawn, (1, 1))), False)


if __name__ == "__main__":
    unittest.main()
