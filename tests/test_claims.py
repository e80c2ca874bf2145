import random
import unittest

from loosemirrors.books import Book
from loosemirrors.claims import judged, shows_judged
from loosemirrors.drawings import Drawing, draw
from loosemirrors.errors import BadClaim
from loosemirrors.ratios import Ratio
from tests.refusals import Refusals
from tests.samples import all_values, nested
from tests.shelf import CROSS, FORMS, GREATEST, KITE, TWO, any_book, any_claim
from tests.sketches import any_rows, as_rows, is_so, plain_rows

STAR = "peg p\nmirror a through p\nmirror b through p\nmirror c through p\nmirror d is a b c"
TRIANGLE = "peg p\npeg q\npeg r\npeg s amid p q\npeg t amid p r\npeg u amid q r"
RAILS = "mirror a\npeg p\nmirror b along a through p\nmirror c across a through p"
TWICE = "mirror a\nmirror b\npeg p\npeg q from p in a\npeg r from q in b"
WORDS = "peg is\npeg even\nmirror through through is\nmirror along along through through even"

# A book, a claim of it, and whether it is always so.
CASES = (
    # Through.
    (CROSS, "mirror a through p", True), (CROSS, "mirror b through p", True), (KITE, "mirror a through r", True),
    (KITE, "mirror a through s", True), (KITE, "mirror a through p", False), (STAR, "mirror d through p", True),
    (RAILS, "mirror a through p", False),
    # Along and across.
    (RAILS, "mirror b along a through p", True), (RAILS, "mirror a along b through p", False),
    (CROSS, "mirror b across a through p", True), (CROSS, "mirror a across b through p", True),
    (CROSS, "mirror a along b through p", False), (CROSS, "mirror c across a through p", False),
    (RAILS, "mirror c across b through p", True), (RAILS, "mirror b across c through p", True),
    (RAILS, "mirror a across c through p", False), (RAILS, "mirror c along b through p", False),
    (RAILS + "\nmirror d across c through p", "mirror d along a through p", True),
    (RAILS + "\nmirror d along c through p", "mirror d across a through p", True),
    (RAILS + "\npeg q on a\nmirror d across c through q", "mirror a along d through q", True),
    # From.
    (TWO + "\nmirror c from a in b", "mirror c from a in b", True),
    (TWO + "\nmirror c from a in b", "mirror a from c in b", True),
    (TWO + "\nmirror c from a in b", "mirror b from a in c", False), (CROSS, "mirror a from b in c", False),
    (STAR, "mirror a from d in b", False),
    (CROSS + "\nmirror d along a through p", "mirror d from a in b", True),
    (KITE, "peg q from p in a", True), (KITE, "peg p from q in a", True), (KITE, "peg r from p in a", False),
    (KITE, "peg q from p about s", True), (KITE, "peg p from q about s", True), (KITE, "peg s from p about q", False),
    (TRIANGLE, "peg q from p about s", True), (TRIANGLE, "peg u from s about t", False),
    # On.
    (KITE, "peg r on a", True), (KITE, "peg s on a", True), (KITE, "peg p on a", False), (CROSS, "peg p on b", True),
    (STAR, "peg p on d", True),
    # Amid.
    (KITE, "peg s amid p q", True), (KITE, "peg s amid q p", True), (KITE, "peg r amid p q", False),
    (KITE, "peg p amid s q", False), (TRIANGLE, "peg u amid s t", False), (TRIANGLE, "peg t amid p r", True),
    # Is.
    (CROSS, "peg p is a b", True), (CROSS, "peg p is b a", True), (CROSS, "peg p is a c", False),
    (CROSS, "peg p is p", True), (CROSS, "peg p is p p p", True), (CROSS, "peg p is p p", False),
    (CROSS, "peg p is a p b p p p", True), (CROSS, "mirror a is b p", True), (CROSS, "mirror a is p b", True),
    (CROSS, "mirror c is a b c", False), (CROSS, "mirror c is c", True), (CROSS, "mirror c is c c c", True),
    (CROSS, "mirror c is a b p c", True), (CROSS, "mirror c is a b c a b", True), (CROSS, "mirror a is c", False),
    (CROSS, "mirror a is a b", False), (CROSS, "mirror a is p", False), (CROSS, "peg p is c", False),
    (STAR, "mirror d is c b a", True), (STAR, "mirror a is d c b", True), (STAR, "mirror b is a d c", True),
    (STAR, "mirror b is a c d", False), (STAR, "mirror c is b a d", True), (STAR, "mirror a is b c d", True),
    (TWICE, "peg r is b a p a b", True), (TWICE, "peg q is b a p a b", False), (TRIANGLE, "peg p is q s s p s q", False),
    (TRIANGLE, "peg q is s p s", True),
    # Even.
    (KITE, "even p r q r", True), (KITE, "even r p q r", True), (KITE, "even p r r q", True),
    (KITE, "even p r p r", True), (KITE, "even p r r p", True), (KITE, "even p q q p", True),
    (KITE, "even p r p q", False), (KITE, "even p s s q", True), (KITE, "even p s p q", False),
    (KITE, "even r s p s", False), (KITE, "even p s r s", False), (TRIANGLE, "even p s q s", True),
    (TRIANGLE, "even s t q u", True), (TRIANGLE, "even s t u r", True), (TRIANGLE, "even s t q r", False),
    (TRIANGLE, "even s u p t", True), (TRIANGLE, "even p q p r", False), (TRIANGLE, "even p q r s", False),
    (TWICE, "even p q q r", False), (TWICE + "\npeg m on a\npeg n on b", "even m q m p", True),
    (TWICE + "\npeg m on a\npeg n on b", "even n q n r", True),
    (TWICE + "\npeg m on a\npeg n on b", "even n q n p", False),
    (TWICE + "\npeg m on a\npeg n on b", "even p m r n", False),
    # Names that are words, too.
    (WORDS, "mirror through through is", True), (WORDS, "mirror along through even", True),
    (WORDS, "mirror along across through through even", False), (WORDS, "even is even even is", True),
    (WORDS, "peg even on along", True), (WORDS, "peg is is is", True), (WORDS, "peg even is is", False),
)

# Not claims of CROSS, RAILS or KITE.
NO_CLAIMS = (
    (CROSS, "mirror a"), (CROSS, "peg p"), (CROSS, "mirror a through q"), (CROSS, "mirror z through p"),
    (CROSS, "mirror p through p"), (CROSS, "peg a on b"), (CROSS, "mirror a through b"), (CROSS, "peg p on p"),
    (CROSS, "mirror a through a"), (CROSS, "mirror a along a through p"), (CROSS, "mirror a across a through p"),
    (CROSS, "mirror a from a in b"), (CROSS, "mirror a from b in a"), (CROSS, "mirror a from b in b"),
    (CROSS, "mirror a from p in b"), (CROSS, "mirror a from b in p"), (CROSS, "mirror a from b about c"),
    (KITE, "peg p amid p q"), (KITE, "peg p amid q p"), (KITE, "peg p amid q q"), (KITE, "peg p amid q a"),
    (KITE, "peg p from p in a"), (KITE, "peg p from p about q"), (KITE, "peg p from q about p"),
    (KITE, "peg p from q about q"), (KITE, "peg p from q about a"), (KITE, "peg p from q in r"),
    (KITE, "peg p from a in q"), (KITE, "peg p on q"), (KITE, "mirror p is p"), (KITE, "peg a is a"),
    (CROSS, "mirror a is"), (CROSS, "mirror a is "), (CROSS, "mirror a is b  p"), (CROSS, "mirror a is b p "),
    (CROSS, " mirror a is b p"), (CROSS, "mirror  a is b p"), (CROSS, "mirror a is b z"), (CROSS, "mirror z is a"),
    (CROSS, "mirror a is b b b b b b b"), (CROSS, "Mirror a is b"), (CROSS, "mirror a IS b"), (CROSS, "mirror A is b"),
    (CROSS, "mirror a is B"), (CROSS, "mirror a through p p"), (CROSS, "mirror a along b"), (CROSS, ""), (CROSS, " "),
    (CROSS, "mirror"), (CROSS, "peg p is a b\n"), (CROSS, "peg p is a\nb"), (CROSS, "peg p is a\tb"),
    (CROSS, "is p a b"), (CROSS, "p is a b"), (CROSS, "peg p is a, b"), (CROSS, "mirror a along b through a"),
    (CROSS, "mirror a across p through p"), (CROSS, "mirror a across b along p"), (CROSS, "mirror a across b in p"),
    (KITE, "even"), (KITE, "even "), (KITE, "even p q"), (KITE, "even p q r"), (KITE, "even p q r s s"),
    (KITE, "even p p q r"), (KITE, "even p q r r"), (KITE, "even p q r a"), (KITE, "even a p q r"),
    (KITE, "even p q r z"), (KITE, "even p q  r"), (KITE, "even  p q r s"), (KITE, "even p q r s "),
    (KITE, " even p q r s"), (KITE, "Even p q r s"), (KITE, "even p q r s\n"), (KITE, "evens p q r s"),
    (KITE, "odd p q r s"), (KITE, "even P q r s"), (KITE, "even p q r\ns"),
)


class Judged(Refusals):
    def check(self, book, claim, is_always):
        found = judged(book, claim)
        self.assertIs(type(found), tuple)
        self.assertEqual(found[0], "always" if is_always else "not")
        self.assertEqual(judged(book, claim), found)
        self.assertIs(shows_judged(book, claim, found), True)
        if is_always:
            self.assertEqual(found, ("always",))
        else:
            self.assertEqual([len(found), type(found[1])], [2, Drawing])
            self.assertEqual(found[1].book, book)
            self.assertEqual(Drawing(book, found[1].rows), found[1])
            self.assertFalse(is_so(plain_rows(found[1]), claim))

    def test_by_hand(self):
        for text, claim, is_always in CASES:
            with self.subTest(text=text, claim=claim):
                self.check(Book(text), claim, is_always)

    def test_each_form_is_always_so_and_not(self):
        told = {}
        for _, claim, is_always in CASES:
            first, _, *rest = claim.split(" ")
            form = first if first == "even" else " ".join([first, rest[0]] + (rest[2:3] if rest[0] == "from" else []))
            told.setdefault(form, set()).add(is_always)
        self.assertEqual(told, {form: {True, False} for form in (
            "mirror through", "mirror along", "mirror across", "mirror from in", "mirror is", "peg on", "peg from in",
            "peg from about", "peg amid", "peg is", "even")})

    def test_the_lines_of_a_book_are_always_so(self):
        texts = list(FORMS.values()) + list(GREATEST) + [any_book(seed, 2 + seed % 11).text for seed in range(60)]
        for text in texts:
            for line in text.split("\n"):
                if len(line.split(" ")) > 2:
                    with self.subTest(text=text, line=line):
                        self.check(Book(text), line, True)

    def test_in_the_twelve_line_books(self):
        for text in GREATEST:
            book = Book(text)
            chance = random.Random(text)
            for _ in range(40):
                claim = any_claim(book, chance)
                with self.subTest(text=text, claim=claim):
                    self.check(book, claim, judged(book, claim)[0] == "always")

    def test_claims_that_follow_by_long_rows(self):
        one, other, third, _ = (Book(text) for text in GREATEST)
        for book, claim, is_always in (
            (one, "mirror i is h g d g h", True), (one, "mirror i is h d g d h g", False),
            (one, "mirror d is g h i h g", True), (one, "mirror g is a b c b a", True),
            (one, "mirror c is b a g a b", True), (one, "even q r p r", True), (one, "even p q p r", False),
            (other, "mirror h is i g g h g i", False), (other, "mirror g is h i h", False),
            (other, "mirror h is g h i h g", True), (other, "mirror g is b g h g b", True),
            (other, "mirror b is h g h g h", False), (other, "mirror a is b g b", False),
            (third, "peg u is r s t", True), (third, "peg r is s t u", True), (third, "peg s is r t u", False),
            (third, "even t r s u", False), (third, "even s t r u", True), (third, "even r s s t", False),
        ):
            with self.subTest(claim=claim):
                self.check(book, claim, is_always)

    def test_any_claims_by_geometry(self):
        found = []
        for seed in range(1200):
            book = any_book(seed % 170, 3 + seed % 10)
            claim = any_claim(book, random.Random(seed))
            with self.subTest(text=book.text, claim=claim):
                word = judged(book, claim)[0]
                self.check(book, claim, word == "always")
                found.append(word)
                wide = [is_so(any_rows(book.text, seed + 5000 * more, 900, 70), claim) for more in range(2)]
                self.assertEqual("always" if all(wide) else "not", word)
                if word == "always":
                    for more in range(3):
                        self.assertTrue(is_so(any_rows(book.text, seed + 7000 * more, 3, 1), claim))
        self.assertGreater(found.count("always"), 100)
        self.assertGreater(found.count("not"), 300)

    def test_refused(self):
        for text, claim in NO_CLAIMS:
            book = Book(text)
            for value in (("always",), ("not", draw(book)), None):
                with self.subTest(text=text, claim=claim):
                    self.assertIs(self.refused(BadClaim, claim, judged, book, claim), claim)
                    self.assertIs(self.refused(BadClaim, claim, shows_judged, book, claim, value), claim)

    def test_refused_values(self):
        book = Book(CROSS)
        for value in all_values() + [("peg p is a b",), ["peg p is a b"], b"peg p is a b", nested(29)]:
            with self.subTest(value=value):
                self.assertIs(self.refused(BadClaim, value, judged, book, value), value)
                self.assertIs(self.refused(BadClaim, value, shows_judged, book, value, ("always",)), value)

    def test_rows_of_six_names_and_seven(self):
        book = Book(CROSS)
        self.check(book, "mirror a is a b a b p p", False)
        self.check(book, "mirror c is a b a b p c", False)
        self.check(book, "mirror c is a b p a a c", True)
        claim = "mirror c is a b a b c c c"
        self.refused(BadClaim, claim, judged, book, claim)

    def test_names_of_the_arguments(self):
        found = judged(claim="peg p is a c", book=Book(CROSS))
        self.assertIs(shows_judged(value=found, claim="peg p is a c", book=Book(CROSS)), True)


# A book, a claim, rows of a drawing, and whether it is so there.
BY_CHANCE = (
    (TWO + "\npeg p", "mirror a through p", ((1, 0, 3), (0, 1, 4), (3, 9)), True),
    (TWO + "\npeg p", "mirror a through p", ((1, 0, 3), (0, 1, 4), (4, 9)), False),
    (TWO + "\npeg p", "mirror a along b through p", ((1, 0, 3), (-2, 0, 4), (3, 9)), True),
    (TWO + "\npeg p", "mirror a along b through p", ((1, 0, 3), (-2, 0, 4), (2, 9)), False),
    (TWO + "\npeg p", "mirror a along b through p", ((1, 0, 3), (-2, 1, 4), (3, 9)), False),
    (TWO + "\npeg p", "mirror a across b through p", ((1, 2, 3), (-2, 1, 4), (3, 0)), True),
    (TWO + "\npeg p", "mirror a across b through p", ((1, 2, 3), (-2, 1, 4), (3, 1)), False),
    (TWO + "\npeg p", "mirror a across b through p", ((1, 2, 3), (2, 1, 4), (3, 0)), False),
    (TWO + "\npeg p", "mirror b is a", ((1, 2, 3), (2, 4, 6), (3, 0)), True),
    (TWO + "\npeg p", "mirror b is a", ((1, 2, 3), (2, 4, 5), (3, 0)), False),
    (TWO + "\npeg p", "peg p is a b", ((1, 0, 3), (0, 1, 4), (3, 4)), True),
    (TWO + "\npeg p", "peg p is a b", ((1, 0, 3), (0, 1, 4), (4, 3)), False),
    (TWO + "\nmirror c", "mirror c from a in b", ((1, 0, 3), (1, 1, 0), (0, 1, -3)), True),
    (TWO + "\nmirror c", "mirror c from a in b", ((1, 0, 3), (1, 1, 0), (0, 1, 3)), False),
    (TWO + "\npeg p", "peg p on a", ((1, 0, 3), (0, 1, 4), (3, 4)), True),
    ("peg p\npeg q\npeg r\nmirror a", "peg q from p in a", ((1, 2), (3, 2), (0, 0), (1, 0, 2)), True),
    ("peg p\npeg q\npeg r\nmirror a", "peg q from p in a", ((1, 2), (3, 3), (0, 0), (1, 0, 2)), False),
    ("peg p\npeg q\npeg r\nmirror a", "peg q from p about r", ((1, 2), (3, 3), (2, Ratio(5, 2)), (1, 0, 2)), True),
    ("peg p\npeg q\npeg r\nmirror a", "peg q from p about r", ((1, 2), (3, 3), (2, 2), (1, 0, 2)), False),
    ("peg p\npeg q\npeg r\nmirror a", "peg r amid p q", ((1, 2), (3, 3), (2, Ratio(5, 2)), (1, 0, 2)), True),
    ("peg p\npeg q\npeg r\nmirror a", "peg r amid p q", ((1, 2), (3, 3), (3, Ratio(5, 2)), (1, 0, 2)), False),
    ("peg p\npeg q\npeg r\nmirror a", "even p q q r", ((0, 0), (3, 4), (3, 9), (1, 0, 2)), True),
    ("peg p\npeg q\npeg r\nmirror a", "even p q q r", ((0, 0), (3, 4), (3, 8), (1, 0, 2)), False),
    ("peg p\npeg q\npeg r\nmirror a", "even p q q r", ((0, 0), (Ratio(3, 7), Ratio(4, 7)), (1, Ratio(4, 7)), (1, 0, 2)),
     False),
    ("peg p\npeg q\npeg r\nmirror a", "even p q p r", ((0, 0), (Ratio(3, 7), Ratio(4, 7)), (Ratio(-5, 7), 0), (1, 0, 2)),
     True),
    ("peg p\npeg q\npeg r\nmirror a", "even p q p r", ((1, 1), (1, 1), (1, 1), (1, 0, 2)), True),
)


class ShowsJudged(unittest.TestCase):
    def test_what_is_so_by_chance(self):
        for text, claim, rows, here in BY_CHANCE:
            book = Book(text)
            drawing = Drawing(Book(text), rows)
            with self.subTest(claim=claim, rows=rows):
                self.assertEqual(judged(book, claim)[0], "not")
                self.assertIs(shows_judged(book, claim, ("not", drawing)), not here)
                self.assertIs(shows_judged(book, claim, ("always", drawing)), False)
                self.assertIs(shows_judged(book, claim, ("always",)), False)

    def test_drawings_by_hand(self):
        for text, claim, is_always in CASES:
            for seed in range(3):
                rows = any_rows(text, seed, 3, 1)
                drawing = Drawing(Book(text), as_rows(rows))
                found = shows_judged(Book(text), claim, ("not", drawing))
                self.assertIs(found, not is_so(rows, claim))
                self.assertIs(shows_judged(Book(text), claim, ("always",)), is_always)
                self.assertFalse(is_always and found)

    def test_other_values(self):
        book, claim = Book(CROSS), "peg p is a c"
        word, drawing = judged(book, claim)
        others = all_values() + [
            ("not",), ("always",), ["not", drawing], ("not", drawing, drawing), (drawing, "not"), ("not", [drawing]),
            ("not", (drawing,)), ("Not", drawing), ("not ", drawing), (None, drawing), (False, drawing),
            ("not", drawing.rows), ("not", book), ("not", None), "not", drawing, (["not"], drawing),
            ("not", draw(Book(TWO))), ("not", draw(Book(CROSS + "\npeg q"))), (nested(29), drawing),
            ("not", nested(29)), ("apart", drawing), ("always", drawing), {"not": drawing}, (("not", drawing),),
        ]
        for value in others:
            with self.subTest(value=value):
                self.assertIs(shows_judged(book, claim, value), False)
        self.assertIs(shows_judged(book, claim, (word, Drawing(Book(CROSS), drawing.rows))), True)

    def test_values_for_what_is_always_so(self):
        book, claim = Book(CROSS), "peg p is a b"
        self.assertIs(shows_judged(book, claim, ("always",)), True)
        others = all_values() + [("not", draw(book)), "always", ["always"], ("always", None), ("Always",), (("always",),),
                                 ("always", "always"), (True,), ("always", draw(book)), {"always": 1}, (nested(29),)]
        for value in others:
            with self.subTest(value=value):
                self.assertIs(shows_judged(book, claim, value), False)


if __name__ == "__main__":
    unittest.main()
