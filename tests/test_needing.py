import random
import unittest

from loosemirrors.books import Book
from loosemirrors.claims import judged
from loosemirrors.errors import BadBook, BadClaim, Loose, Needed, NoName, NotSure
from loosemirrors.needing import core, loosened, needed
from tests.refusals import Refusals
from tests.samples import all_values, nested
from tests.shelf import CROSS, FORMS, GREATEST, KITE, TWO, any_book, any_claim

# Of each form: the last line of its book, loosened; None if it has two words.
LOOSENED = {
    "mirror NAME": None,
    "mirror NAME through P": "mirror z",
    "mirror NAME along A through P": "mirror z through p",
    "mirror NAME across A through P": "mirror z through p",
    "mirror NAME from A in B": "mirror z",
    "mirror NAME is ROW": "mirror z",
    "peg NAME": None,
    "peg NAME on A": "peg z",
    "peg NAME from P in A": "peg z",
    "peg NAME from P about Q": "peg z",
    "peg NAME amid P Q": "peg z",
    "peg NAME is ROW": "peg z",
}

STAR = "peg p\nmirror a through p\nmirror b through p\nmirror c through p\nmirror d is a b c"
FIVE = "mirror a\nmirror b\nmirror c\nmirror d\nmirror e\npeg p\n"
RAILS = "mirror a\npeg p\nmirror b along a through p\npeg q\nmirror c across b through q"

# A book, and by names its lines, loosened; None if the lines are no book then.
LOOSENED_LINES = (
    (CROSS, {"a": "mirror a", "b": "mirror b through p", "c": "mirror c"}),
    (STAR, {"a": None, "b": None, "c": None, "d": "mirror d"}),
    (FIVE + "mirror f along a through p", {"f": None}), (FIVE + "mirror f across a through p", {"f": None}),
    (FIVE + "mirror f from a in b", {"f": None}), (FIVE + "mirror f is a b a", {"f": None}),
    (FIVE + "peg q on a\npeg r from q in b", {"q": "peg q", "r": "peg r"}),
    (FIVE.replace("mirror e\n", "") + "mirror f from a in b", {"f": "mirror f"}),
    (FIVE.replace("mirror e\npeg p\n", "peg p\nmirror e through p"), {"e": "mirror e"}),
    ("peg p\nmirror a through p\nmirror b across a through p\npeg q is a b", {"a": "mirror a", "b": None, "q": "peg q"}),
    ("mirror a\npeg q on a\nmirror b is a q", {"q": None, "b": "mirror b"}),
    ("mirror a\npeg q on a\nmirror b is q a q", {"q": "peg q", "b": "mirror b"}),
    ("mirror a\npeg p\npeg q from p in a\nmirror b is p a q", {"q": None, "b": "mirror b"}),
    ("peg p\npeg q\npeg r amid p q\npeg s is p r q", {"r": "peg r", "s": "peg s"}),
    ("peg p\npeg q\npeg r amid p q\nmirror a\npeg s is a r a", {"r": "peg r", "s": "peg s"}),
    (RAILS, {"b": "mirror b through p", "c": "mirror c through q"}),
    ("mirror a\npeg p\nmirror b along a through p\nmirror c through p\nmirror e through p\nmirror d is b c e",
     {"b": "mirror b through p", "c": None, "e": None, "d": "mirror d"}),
)

# A book, a claim that is always so, the names that are needed, and the lines of the core.
SURE = (
    (CROSS, "peg p is a b", ("a", "b"), "peg p\nmirror a through p\nmirror b across a through p\nmirror c"),
    (CROSS, "mirror a across b through p", ("a", "b"),
     "peg p\nmirror a through p\nmirror b across a through p\nmirror c"),
    (CROSS, "mirror a through p", ("a",), "peg p\nmirror a through p\nmirror b\nmirror c"),
    (CROSS, "mirror b through p", (), "peg p\nmirror a\nmirror b through p\nmirror c"),
    (CROSS, "mirror c through p", ("c",), "peg p\nmirror a\nmirror b\nmirror c through p"),
    (CROSS, "mirror b across a through p", ("b",), "peg p\nmirror a\nmirror b across a through p\nmirror c"),
    (CROSS, "mirror c is c", (), "peg p\nmirror a\nmirror b\nmirror c"),
    (CROSS, "peg p is p p p", (), "peg p\nmirror a\nmirror b\nmirror c"),
    (CROSS, "mirror c is a b p c", ("a", "b"), "peg p\nmirror a through p\nmirror b across a through p\nmirror c"),
    (KITE, "peg q from p in a", ("q",), "mirror a\npeg p\npeg q from p in a\npeg r\npeg s"),
    (KITE, "even p r q r", ("q", "r"), "mirror a\npeg p\npeg q from p in a\npeg r on a\npeg s"),
    (KITE, "peg s on a", ("q", "s"), "mirror a\npeg p\npeg q from p in a\npeg r\npeg s amid p q"),
    (KITE, "peg s amid q p", ("s",), "mirror a\npeg p\npeg q\npeg r\npeg s amid p q"),
    (KITE, "even p s s q", ("s",), "mirror a\npeg p\npeg q\npeg r\npeg s amid p q"),
    (KITE, "even p q q p", (), "mirror a\npeg p\npeg q\npeg r\npeg s"),
    (KITE, "even q r q r", (), "mirror a\npeg p\npeg q\npeg r\npeg s"),
    # Where lines with `is` behind them keep lines as they are.
    (STAR, "mirror d is c b a", ("a", "b", "c", "d"), STAR),
    (STAR, "mirror a is a", ("a", "b", "c"), "peg p\nmirror a\nmirror b\nmirror c\nmirror d"),
    (STAR, "mirror d through p", ("a", "b", "c", "d"), STAR),
    (STAR, "mirror a through p", ("a", "b", "c"), "peg p\nmirror a through p\nmirror b\nmirror c\nmirror d"),
    # Where six mirrors were loose.
    (FIVE + "mirror f along a through p", "mirror f is f", ("f",), FIVE + "mirror f along a through p"),
    (FIVE.replace("mirror e\npeg p", "peg p\nmirror e through p") + "mirror f along a through p", "mirror f is f",
     ("f",), "mirror a\nmirror b\nmirror c\nmirror d\npeg p\nmirror e\nmirror f along a through p"),
    # Where a line is loosened twice, or but once.
    (RAILS, "peg p is p", (), "mirror a\npeg p\nmirror b\npeg q\nmirror c"),
    (RAILS, "mirror c through q", (), "mirror a\npeg p\nmirror b\npeg q\nmirror c through q"),
    (RAILS, "mirror b through p", (), "mirror a\npeg p\nmirror b through p\npeg q\nmirror c"),
    (RAILS, "mirror c across a through q", ("b", "c"), RAILS),
    (RAILS, "mirror b along a through p", ("b",), "mirror a\npeg p\nmirror b along a through p\npeg q\nmirror c"),
    (RAILS, "mirror c across b through q", ("c",), "mirror a\npeg p\nmirror b\npeg q\nmirror c across b through q"),
    # Where one of two lines is enough: the last one is loosened first.
    ("mirror a\npeg p on a\npeg q from p in a", "even p q p q", (), "mirror a\npeg p\npeg q"),
    ("peg p\npeg q\npeg r amid p q\npeg s amid p q\nmirror a through r", "peg r is s r s r r", ("r", "s"),
     "peg p\npeg q\npeg r amid p q\npeg s amid p q\nmirror a"),
)


class Loosened(Refusals):
    def test_each_form(self):
        self.assertEqual(set(LOOSENED), set(FORMS))
        for form, line in LOOSENED.items():
            book = Book(FORMS[form])
            with self.subTest(form=form):
                if line is None:
                    self.assertEqual(self.refused(Loose, "z", loosened, book, "z"), "z")
                else:
                    found = loosened(book, "z")
                    self.assertIs(type(found), Book)
                    self.assertEqual(found.text, "\n".join(book.text.split("\n")[:-1] + [line]))
                    self.assertEqual(book.text, FORMS[form])

    def test_lines_by_hand(self):
        for text, lines in LOOSENED_LINES:
            book = Book(text)
            for name, line in lines.items():
                with self.subTest(text=text, name=name):
                    if line is None:
                        self.refused(Needed, name, loosened, book, name)
                    else:
                        self.assertEqual(loosened(book, name).text, text.replace(book[name], line))

    def test_again_and_again(self):
        book = Book(RAILS)
        once = loosened(book, "b")
        twice = loosened(once, "b")
        self.assertEqual([once["b"], twice["b"]], ["mirror b through p", "mirror b"])
        self.refused(Loose, "b", loosened, twice, "b")

    def test_any_books(self):
        for seed in range(80):
            book = any_book(seed, 3 + seed % 10)
            for at, name in enumerate(book.names):
                words = book[name].split(" ")
                if len(words) == 2:
                    self.refused(Loose, name, loosened, book, name)
                    continue
                line = f"mirror {name} through {words[5]}" if words[2] in ("along", "across") else " ".join(words[:2])
                lines = book.text.split("\n")
                lines[at] = line
                try:
                    looser = Book("\n".join(lines))
                except BadBook:
                    self.refused(Needed, name, loosened, book, name)
                else:
                    self.assertEqual(loosened(book, name), looser)

    def test_no_names(self):
        book = Book(CROSS)
        for value in all_values() + ["z", "ab", "A", " a", "mirror", "mirror a", ("a",), ["a"], nested(29)]:
            if value != "a":
                with self.subTest(value=value):
                    self.assertIs(self.refused(NoName, value, loosened, book, value), value)

    def test_names_of_the_arguments(self):
        self.assertEqual(loosened(name="b", book=Book(CROSS))["b"], "mirror b through p")


class NeededAndCore(Refusals):
    def test_by_hand(self):
        for text, claim, names, lines in SURE:
            with self.subTest(text=text, claim=claim):
                book = Book(text)
                self.assertEqual(judged(book, claim), ("always",))
                self.assertEqual(needed(book, claim), names)
                self.assertIs(type(needed(book, claim)), tuple)
                self.assertEqual(core(book, claim).text, lines)
                self.assertIs(type(core(book, claim)), Book)
                self.assertEqual(book.text, text)

    def test_core_goes_by_the_sequence_of_lines(self):
        # That r stands amid p and q and on a follows twice: the last line of them is loosened.
        text = "mirror a\npeg p\npeg q from p in a\npeg m amid p q\npeg r on a\npeg n amid p q"
        claim = "even p m m q"
        self.assertEqual(core(Book(text), claim).text, "mirror a\npeg p\npeg q\npeg m amid p q\npeg r\npeg n")
        claim = "peg m is n"
        self.assertEqual(core(Book(text), claim).text, "mirror a\npeg p\npeg q\npeg m amid p q\npeg r\npeg n amid p q")
        # Either of b and c is loosened to the last but one step only.
        text = ("peg p\npeg q\npeg r\nmirror a through p\nmirror b along a through q\nmirror c along a through r\n"
                "mirror d along b through p\nmirror e along c through p")
        self.assertEqual(core(Book(text), "mirror d is e").text,
                         text.replace("mirror a through p", "mirror a"))
        self.assertEqual(core(Book(text), "mirror d is a").text, text.replace(
            "mirror c along a through r", "mirror c").replace("mirror e along c through p", "mirror e"))
        swapped = text.replace("mirror d along b through p\nmirror e along c through p",
                               "mirror e along c through p\nmirror d along b through p")
        self.assertEqual(needed(Book(swapped), "mirror d is e"), ("b", "c", "e", "d"))

    def test_core_where_one_of_two_lines_can_be_loosened(self):
        # With both of them loosened there were six loose mirrors.
        four = "peg p\nmirror a\nmirror b\nmirror c\nmirror d\n"
        e, f = "mirror e along a through p", "mirror f across a through p"
        self.assertEqual(needed(Book(four + e + "\n" + f), "mirror a is a"), ())
        self.assertEqual(core(Book(four + e + "\n" + f), "mirror a is a").text, four + e + "\nmirror f")
        self.assertEqual(core(Book(four + f + "\n" + e), "mirror a is a").text, four + f + "\nmirror e")
        self.assertEqual(core(Book(four + e + "\n" + f), "mirror f through p").text, four + e + "\nmirror f through p")
        self.assertEqual(core(Book(four + e + "\n" + f), "mirror f across a through p").text, four + "mirror e\n" + f)

    def test_chains_of_lines(self):
        text = "mirror a\npeg p\npeg q from p in a\nmirror b across a through p\npeg r amid p q\npeg s from r in a"
        self.assertEqual(needed(Book(text), "peg s is r"), ("q", "r", "s"))
        text = "peg p\npeg q\nmirror a through p\nmirror b across a through p\nmirror c across a through p"
        self.assertEqual(needed(Book(text), "peg p is a b"), ("a", "b"))
        text = "mirror a\npeg p\nmirror b along a through p\nmirror c across a through p\nmirror d across c through p"
        self.assertEqual(needed(Book(text), "mirror d is b"), ("b", "c", "d"))
        self.assertEqual(core(Book(text), "mirror d along a through p").text,
                         text.replace("mirror b along a through p", "mirror b"))

    def test_any_claims(self):
        sure = 0
        for seed in range(500):
            book = any_book(seed % 90, 3 + seed % 10)
            claim = any_claim(book, random.Random(seed))
            if judged(book, claim)[0] == "not":
                for deed in (needed, core):
                    self.assertIs(self.refused(NotSure, claim, deed, book, claim), claim)
                continue
            sure += 1
            with self.subTest(text=book.text, claim=claim):
                self.check(book, claim)
        self.assertGreater(sure, 60)

    def check(self, book, claim):
        """What needed and core tell, by loosened and judged."""
        hanging = [name for name in book.names if len(book[name].split(" ")) > 2]
        self.assertEqual(needed(book, claim), tuple(name for name in hanging if not self.looser(book, name, claim)))
        rest = book
        for name in reversed(book.names):
            while self.looser(rest, name, claim):
                rest = self.looser(rest, name, claim)
        self.assertEqual(core(book, claim), rest)
        self.assertEqual(judged(rest, claim), ("always",))
        self.assertEqual(rest.names, book.names)

    def looser(self, book, name, claim):
        try:
            found = loosened(book, name)
        except (Needed, Loose):
            return None
        return found if judged(found, claim) == ("always",) else None

    def test_greatest(self):
        for text in GREATEST:
            book = Book(text)
            for line in text.split("\n"):
                if len(line.split(" ")) > 2:
                    with self.subTest(line=line):
                        self.check(book, line)
                        self.assertIn(line.split(" ")[1], needed(book, line))
            for name in book.names:
                claim = f"{'mirror' if name in book.mirrors else 'peg'} {name} is {name} {name} {name}"
                self.check(book, claim)

    def test_no_claims(self):
        book = Book(CROSS)
        for value in all_values() + ["mirror a", "peg p is z", "even p p p p", "mirror b across a through p ", nested(29),
                                     ("peg p is a b",), "peg p is a b\n"]:
            for deed in (needed, core):
                with self.subTest(value=value):
                    self.assertIs(self.refused(BadClaim, value, deed, book, value), value)

    def test_not_sure(self):
        book = Book(CROSS)
        for claim in ("peg p is a c", "mirror c across a through p", "mirror a is b", "mirror a is p", "peg p is c"):
            for deed in (needed, core):
                with self.subTest(claim=claim):
                    self.assertIs(self.refused(NotSure, claim, deed, book, claim), claim)
        self.refused(NotSure, "even p q p r", core, Book("peg p\npeg q\npeg r"), "even p q p r")

    def test_names_of_the_arguments(self):
        self.assertEqual(needed(claim="peg p is a b", book=Book(CROSS)), ("a", "b"))
        self.assertEqual(core(claim="mirror a is a", book=Book(TWO)), Book(TWO))


if __name__ == "__main__":
    unittest.main()
