import random
import unittest
from fractions import Fraction

from loosemirrors.books import Book
from loosemirrors.errors import BadBook, BadLine, Few, NoName, Used
from loosemirrors.ratios import Ratio
from loosemirrors.scripts import Script
from tests.refusals import Refusals
from tests.samples import Strange, all_values, no_strings
from tests.shelf import CROSS, FORMS, GREATEST, KITE, TWO, any_book
from tests.sketches import any_rows, led

# Three mirrors through one peg, two of them at right angles.
STAR = "peg p\nmirror a through p\nmirror b through p\nmirror c across a through p"
MIRRORS = "\n".join(f"mirror {name}" for name in "abcde")
PEGS = "\n".join(f"peg {name}" for name in "pqrs")


def parts(book):
    return book.text, book.names, book.mirrors, book.pegs, book.loose


def behind(text, line):
    return f"{text}\n{line}"


class Lines(Refusals):
    def test_each_form_behind_what_it_needs(self):
        for form, text in FORMS.items():
            with self.subTest(form=form):
                book = Book(text)
                self.assertEqual(book.text, text)
                self.assertEqual(book.names[-1], "z")
                self.assertEqual(len(book), len(text.split("\n")))
                self.assertEqual(book["z"], text.split("\n")[-1])
                kind, other = (book.mirrors, book.pegs) if form.startswith("mirror") else (book.pegs, book.mirrors)
                self.assertIn("z", kind)
                self.assertNotIn("z", other)
                self.assertEqual("z" in book.loose, form in ("mirror NAME", "mirror NAME through P"))

    def test_each_form_alone(self):
        for form, text in FORMS.items():
            line = text.split("\n")[-1]
            with self.subTest(form=form):
                if form in ("mirror NAME", "peg NAME"):
                    self.assertEqual(Book(line).names, ("z",))
                else:
                    self.refused(BadBook, 1, Book, line)

    def test_each_form_behind_other_lines(self):
        for form, text in FORMS.items():
            for ahead in ("peg x", "mirror x", "mirror x\nmirror y", "peg x\nmirror y through x\npeg w on y"):
                with self.subTest(form=form, ahead=ahead):
                    self.assertEqual(Book(behind(ahead, text)).text, behind(ahead, text))
                    self.assertEqual(Book(behind(text, ahead)).text, behind(text, ahead))

    def test_each_form_without_one_of_the_lines_it_needs(self):
        for form, text in FORMS.items():
            lines = text.split("\n")
            for at, line in enumerate(lines[:-1]):
                left = lines[:at] + lines[at + 1:]
                name = line.split(" ")[1]
                first = 1 + [name in other.split(" ")[2:] for other in left].index(True)
                with self.subTest(form=form, line=line):
                    self.refused(BadBook, first, Book, "\n".join(left))

    def test_properties(self):
        book = Book(KITE)
        self.assertEqual(parts(book), (KITE, ("a", "p", "q", "r", "s"), ("a",), ("p", "q", "r", "s"), ("a",)))
        self.assertEqual([type(part) for part in parts(book)], [str, tuple, tuple, tuple, tuple])
        self.assertEqual(parts(Book("peg p")), ("peg p", ("p",), (), ("p",), ()))
        book = Book(CROSS)
        self.assertEqual(parts(book), (CROSS, ("p", "a", "b", "c"), ("a", "b", "c"), ("p",), ("a", "c")))

    def test_words_of_lines_as_names(self):
        texts = [
            "mirror mirror\npeg peg\nmirror through through peg\nmirror along along mirror through peg",
            "peg is\npeg on\npeg amid amid is on\npeg about from is about on\npeg peg is is on about",
            "mirror in\nmirror from\nmirror mirror from in in from\nmirror is is in from in",
            "peg through\nmirror across through through\nmirror along across across through through",
            "mirror is\nmirror x is is\nmirror y is is x is\npeg on on is",
        ]
        for text in texts:
            with self.subTest(text=text):
                book = Book(text)
                self.assertEqual(book.names, tuple(line.split(" ")[1] for line in text.split("\n")))
        self.refused(BadBook, 1, Book, "mirror is is")
        self.refused(BadBook, 1, Book, "mirror through through through")
        self.refused(BadBook, 2, Book, "mirror is\nmirror is is is")

    def test_names_of_one_to_eight_letters(self):
        self.assertEqual(Book("mirror abcdefgh\npeg z on abcdefgh").names, ("abcdefgh", "z"))
        for name in ("abcdefghi", "A", "aB", "a1", "", "a-b", "1", "a,", "~a"):
            self.refused(BadBook, 1, Book, f"mirror {name}")
            self.refused(BadBook, 2, Book, f"peg a\npeg {name}")

    def test_wrong_words(self):
        lines = [
            "", "mirror", "peg", "line b", "b", "Mirror b", "PEG b", "mirrors b", "pegs b", "mirror b c", "peg b c",
            "mirror b on a", "mirror b amid p q", "mirror b through", "mirror b thru p", "mirror b through p p",
            "mirror b along a", "mirror b along a through", "mirror b along a in p", "mirror b across a p",
            "mirror b along through p", "mirror b across a through p q", "mirror b from a", "mirror b from a in",
            "mirror b from a about p", "mirror b from a on a", "mirror b from a of c", "mirror b is", "mirror b are a",
            "peg b through p", "peg b along a through p", "peg b across a through p", "peg b on", "peg b on a a",
            "peg b from p", "peg b from p in", "peg b from p through a", "peg b amid p", "peg b amid p q r", "peg b is",
            "peg b in a", "peg b about p", "even p q p q", "mirror b=a", "mirror b, c", "deeds", "row a 1 0 3",
        ]
        ahead = "mirror a\nmirror c\npeg p\npeg q\npeg r"
        for line in lines:
            with self.subTest(line=line):
                self.refused(BadBook, 6, Book, behind(ahead, line))
                self.refused(BadLine, line, Book(ahead).told, line)

    def test_mirrors_and_pegs_in_the_places_of_others(self):
        ahead = "mirror a\nmirror b\npeg p\npeg q"
        lines = [
            "mirror z through a", "mirror z along p through q", "mirror z along a through b",
            "mirror z across p through q",
            "mirror z across a through b", "mirror z from a in p", "mirror z from p in a", "mirror z from p in q",
            "peg z on p", "peg z from a in b", "peg z from p in q", "peg z from a in a", "peg z from p about a",
            "peg z from a about p", "peg z amid a p", "peg z amid p a", "peg z amid a b", "mirror z along p through a",
        ]
        for line in lines:
            with self.subTest(line=line):
                self.refused(BadBook, 5, Book, behind(ahead, line))

    def test_names_twice_in_one_line(self):
        ahead = "mirror a\nmirror b\npeg p\npeg q"
        for line in ("mirror z from a in a", "peg z from p about p", "peg z amid p p", "mirror z from z in a",
                     "mirror z along z through p", "mirror z through z", "peg z on z", "peg z amid z p",
                     "peg z from p about z",
                     "mirror z is z", "mirror z is a z a", "peg z is z"):
            with self.subTest(line=line):
                self.refused(BadBook, 5, Book, behind(ahead, line))
        self.assertIn("z", Book(behind(ahead, "peg z is p p q q p")))

    def test_names_told_twice(self):
        for text, number in (("mirror a\nmirror a", 2), ("mirror a\npeg a", 2),
                             ("peg p\nmirror a through p\npeg p on a", 3),
                             ("peg a\nmirror a", 2), ("mirror a\nmirror b\nmirror c\nmirror b is a", 4),
                             ("mirror a\nmirror a\nmirror b\nmirror c", 2), ("peg p\npeg q\npeg p amid p q\npeg q", 3)):
            self.refused(BadBook, number, Book, text)

    def test_names_told_later(self):
        for text, number in (("peg q on a\nmirror a", 1), ("mirror a\nmirror b is c\nmirror c", 2),
                             ("mirror a\npeg p on a\npeg q from p about r\npeg r", 3)):
            self.refused(BadBook, number, Book, text)

    def test_blanks_and_line_feeds(self):
        for text, number in (
            ("", 1), ("\n", 1), (" ", 1), ("mirror  a", 1), (" mirror a", 1), ("mirror a ", 1), ("mirror a\n", 2),
            ("\nmirror a", 1), ("mirror a\n\nmirror b", 2), ("mirror a\nmirror b\n", 3), ("mirror a\nmirror b ", 2),
            ("mirror a\n peg p", 2), ("mirror a\npeg p on  a", 2), ("mirror a\npeg p  on a", 2),
            ("mirror a\nmirror b is a  a a", 2),
            ("mirror a\nmirror b is a a a ", 2), ("mirror\ta", 1), ("mirror a\n\n", 2), ("mirror a\n \n", 2),
            ("mirror\na", 1),
        ):
            with self.subTest(text=text):
                self.refused(BadBook, number, Book, text)

    def test_no_strings(self):
        for value in no_strings():
            with self.subTest(value=value):
                self.refused(BadBook, 0, Book, value)

    def test_the_first_of_several_wrong_lines(self):
        self.refused(BadBook, 2, Book, "mirror a\nwrong\nmirror a\nmirror b is a a")
        self.refused(BadBook, 2, Book, "mirror a\nmirror b is a a\nwrong")
        self.refused(BadBook, 3, Book, "mirror a\nmirror b\npeg c is a b\nmirror a\npeg q on")
        self.refused(BadBook, 1, Book, "peg q on a\nwrong\n")


class Many(Refusals):
    def test_twelve_lines(self):
        lines = [f"peg {name}" for name in "abcdefghijklmn"]
        for many in range(1, 13):
            self.assertEqual(len(Book("\n".join(lines[:many]))), many)
        self.refused(BadBook, 13, Book, "\n".join(lines[:13]))
        self.refused(BadBook, 13, Book, "\n".join(lines))
        self.refused(BadBook, 13, Book, "\n".join(lines[:12]) + "\n")
        self.refused(BadBook, 5, Book, "\n".join(lines[:4] + ["wrong"] + lines[4:]))
        self.refused(BadLine, "peg m", Book("\n".join(lines[:12])).told, "peg m")

    def test_five_loose_mirrors(self):
        self.assertEqual(Book(MIRRORS).loose, tuple("abcde"))
        self.refused(BadBook, 6, Book, behind(MIRRORS, "mirror f"))
        text = "peg p\nmirror a\nmirror b through p\nmirror c\nmirror d through p\nmirror e"
        self.assertEqual(Book(text).loose, tuple("abcde"))
        for line in ("mirror f", "mirror f through p"):
            self.refused(BadBook, 7, Book, behind(text, line))
            self.refused(BadLine, line, Book(text).told, line)
        for line in ("mirror f along a through p", "mirror f across a through p", "mirror f from a in b",
                     "mirror f is a b a"):
            self.assertEqual(Book(text).told(line).loose, tuple("abcde"))

    def test_three_lines_with_rows(self):
        ahead = "mirror a\nmirror b\npeg p\npeg q"
        lines = {
            "mirror": ["mirror {} from a in b", "mirror {} is a b a", "mirror {} is a"],
            "peg": ["peg {} from p in a", "peg {} is p q p", "peg {} is p"],
        }
        forms = lines["mirror"] + lines["peg"]
        for seed in range(60):
            chance = random.Random(seed)
            told = [chance.choice(forms).format(name) for name in "wxyz"]
            with self.subTest(told=told):
                book = Book("\n".join([ahead] + told[:3]))
                self.assertEqual(len(book), 7)
                self.refused(BadBook, 8, Book, "\n".join([ahead] + told))
                self.refused(BadLine, told[3], book.told, told[3])

    def test_other_lines_do_not_count(self):
        ahead = "mirror a\nmirror b\npeg p\npeg q\nmirror c from a in b\npeg r from p in a\nmirror d is a b a"
        for line in ("peg z from p about q", "peg z amid p q", "peg z on a", "mirror z along a through p",
                     "mirror z across a through p", "mirror z through q", "mirror z", "peg z"):
            self.assertEqual(Book(ahead).told(line)["z"], line)
        told = "\n".join([f"peg {name} from p about q" for name in "efghi"])
        self.assertEqual(len(Book(behind(ahead, told))), 12)

    def test_six_names_in_a_row(self):
        for many in range(1, 9):
            row = " ".join(["p"] * many)
            with self.subTest(many=many):
                text = behind(PEGS, f"peg z is {row}")
                if many % 2 and many <= 6:
                    self.assertEqual(Book(text)["z"], f"peg z is {row}")
                else:
                    self.refused(BadBook, 5, Book, text)
        self.assertIn("z", Book(behind(STAR, "peg z is a c a a b b")))
        self.refused(BadBook, 5, Book, behind(STAR, "peg z is a c a a b b p p"))
        self.refused(BadBook, 5, Book, behind(STAR, "mirror z is a b c a b c a"))
        self.assertIn("z", Book(behind(STAR, "mirror z is a b c p a b")))

    def test_greatest(self):
        for text in GREATEST:
            book = Book(text)
            self.assertEqual(len(book), 12)
            self.assertEqual(book.text, text)


class Rows(Refusals):
    def test_rows_that_mirror(self):
        cases = [
            (TWO, "a"), (TWO, "a b a"), (TWO, "a b a b a"), (TWO, "a a b"), (STAR, "a b c"), (STAR, "a p"),
            (STAR, "p a"),
            (STAR, "b p"), (STAR, "a b c b a"), (KITE, "a p p"), (KITE, "p a p"), (KITE, "p q a"), (KITE, "r a"),
            (KITE, "a r"), (KITE, "q a p"), (KITE, "s a p"),
            ("peg p\nmirror a\nmirror b along a through p\nmirror c across a through p", "a b a"),
            ("mirror a\npeg p\nmirror b along a through p\nmirror d along b through p", "a b d"),
        ]
        for ahead, row in cases:
            with self.subTest(ahead=ahead, row=row):
                self.assertIn("z", Book(behind(ahead, f"mirror z is {row}")))
                self.refused(BadLine, f"peg z is {row}", Book(ahead).told, f"peg z is {row}")

    def test_rows_of_half_turns(self):
        for ahead, row in ((PEGS, "p"), (PEGS, "p q r"), (PEGS, "p q r s p"), (PEGS, "p q p"), (STAR, "a c"),
                           (STAR, "c a"),
                           (STAR, "b a c b"), (KITE, "a p a"), (KITE, "r r q"), (KITE, "p a q a p"),
                           ("mirror a\npeg p\nmirror b across a through p", "a b")):
            with self.subTest(ahead=ahead, row=row):
                self.assertIn("z", Book(behind(ahead, f"peg z is {row}")))
                self.refused(BadLine, f"mirror z is {row}", Book(ahead).told, f"mirror z is {row}")

    def test_rows_that_are_neither(self):
        for ahead, row in ((TWO, "a b"), (TWO, "a a"), ("mirror a\nmirror b\nmirror c", "a b c"), (KITE, "a p"),
                           (KITE, "p q"),
                           (PEGS, "p q"), (PEGS, "p q r s"), (STAR, "a b"), (STAR, "a c p"), (KITE, "p a"),
                           (KITE, "r a p")):
            for word in ("mirror", "peg"):
                line = f"{word} z is {row}"
                with self.subTest(ahead=ahead, line=line):
                    self.refused(BadBook, len(ahead.split("\n")) + 1, Book, behind(ahead, line))

    def test_rows_that_are_so_in_some_drawings_only(self):
        # a and b may meet at right angles, p may stand on a, the three mirrors may go through one dot.
        for ahead, line in ((TWO, "peg z is a b"), ("mirror a\npeg p", "mirror z is a p"),
                            ("mirror a\nmirror b\nmirror c", "mirror z is a b c"), (STAR, "peg z is a b"),
                            ("peg p\npeg q\nmirror a through p\nmirror b through p\nmirror c through q",
                             "mirror z is a b c")):
            self.refused(BadBook, len(ahead.split("\n")) + 1, Book, behind(ahead, line))
            self.refused(BadLine, line, Book(ahead).told, line)

    def test_lines_ahead_of_the_row_make_it_so(self):
        text = "mirror a\nmirror b\npeg p on a\nmirror c through p\nmirror d through p"
        self.assertIn("z", Book(behind(text, "mirror z is a c d")))
        self.refused(BadBook, 6, Book, behind(text, "mirror z is b c d"))
        # The line that would make it so stands behind it.
        self.refused(BadBook, 3, Book, "peg p\nmirror a through p\npeg z is a b\nmirror b across a through p")

    def test_any_rows(self):
        """What stands is just what mirrors, or turns by half a round, in each of some drawings."""
        for seed in range(120):
            book = any_book(seed, 4 + seed % 5)
            if len([line for line in book.text.split("\n") if " is " in line or " from " in line]) > 2:
                continue
            chance = random.Random(seed)
            row = " ".join(chance.choice(book.names) for _ in range(chance.randint(1, 6)))
            drawings = [any_rows(book.text, 1000 * seed + at, 99, 7) for at in range(4)]
            for word in ("mirror", "peg"):
                line = f"{word} z is {row}"
                with self.subTest(text=book.text, line=line):
                    if all(does(word, rows, row.split(" ")) for rows in drawings):
                        self.assertIn("z", book.told(line))
                    else:
                        self.refused(BadLine, line, book.told, line)


def does(word, rows, steps):
    """Whether steps mirror, or turn by half a round, in a drawing."""
    dots = [(Fraction(0), Fraction(0)), (Fraction(1), Fraction(0)), (Fraction(0), Fraction(1))]
    ends = [led(rows, steps, dot) for dot in dots]
    if word == "mirror":
        mirrors = len([name for name in steps if len(rows[name]) == 3])
        return mirrors % 2 == 1 and all(led(rows, steps, end) == dot for dot, end in zip(dots, ends))
    return all(dot[0] + end[0] == ends[0][0] and dot[1] + end[1] == ends[0][1] for dot, end in zip(dots, ends))


class Asking(Refusals):
    def test_len(self):
        for text in list(FORMS.values()) + [CROSS, KITE]:
            self.assertEqual(len(Book(text)), text.count("\n") + 1)

    def test_names_in_it(self):
        book = Book(CROSS)
        for value in ("p", "a", "b", "c"):
            self.assertIs(value in book, True)
        for value in ("q", "mirror", "through", "", "a b", CROSS, "p\n"):
            self.assertIs(value in book, False)
        for value in no_strings():
            self.assertIs(value in book, False)

    def test_text_of_a_line(self):
        book = Book(KITE)
        for line in KITE.split("\n"):
            self.assertEqual(book[line.split(" ")[1]], line)

    def test_text_of_no_line(self):
        book = Book(KITE)
        for value in ["b", "mirror", "", "a p", "peg p", "mirror a"] + no_strings():
            with self.subTest(value=value):
                found = self.refused(NoName, value, lambda value=value: book[value])
                self.assertIs(found, value)

    def test_other_operators(self):
        book = Book(TWO)
        for other in [value for value in all_values()] + [Strange(), book]:
            for reckon in (lambda a, b: a + b, lambda a, b: a * b, lambda a, b: a - b, lambda a, b: a < b, lambda a,
                           b: a >= b):
                with self.assertRaises(TypeError):
                    reckon(book, other)
        for reckon in (lambda: -book, lambda: ~book):
            with self.assertRaises(TypeError):
                reckon()

    def test_names_of_the_arguments(self):
        book = Book(text=TWO)
        self.assertEqual(book.told(line="mirror c").without(name="a").text, "mirror b\nmirror c")


class Told(Refusals):
    def test_a_line_more(self):
        for form, text in FORMS.items():
            lines = text.split("\n")
            if len(lines) > 1:
                with self.subTest(form=form):
                    book = Book("\n".join(lines[:-1]))
                    was = parts(book)
                    found = book.told(lines[-1])
                    self.assertIs(type(found), Book)
                    self.assertEqual(parts(found), parts(Book(text)))
                    self.assertEqual(parts(book), was)

    def test_what_is_no_line(self):
        book = Book(KITE)
        for value in no_strings() + ["", "\n", "peg", "peg t\n", "\npeg t", "peg t\npeg u", "peg a", "mirror s",
                                     "peg t ", " peg t",
                                     "peg  t", "peg t on p", "peg t on b", "mirror t is a p", "peg t is a", "a",
                                     "even p q r s"]:
            with self.subTest(value=value):
                self.assertIs(self.refused(BadLine, value, book.told, value), value)
        self.assertEqual(book.text, KITE)

    def test_document(self):
        self.assertEqual(Book(CROSS).told("mirror d is a b c").names, ("p", "a", "b", "c", "d"))


class Without(Refusals):
    def test_a_line_less(self):
        book = Book(CROSS)
        for name in ("b", "c"):
            found = book.without(name)
            self.assertIs(type(found), Book)
            text = "\n".join(line for line in CROSS.split("\n") if not line.startswith(f"mirror {name}"))
            self.assertEqual(parts(found), parts(Book(text)))
        self.assertEqual(book.text, CROSS)
        self.assertEqual(book.without("c").without("b").without("a").text, "peg p")

    def test_no_names(self):
        for value in ["q", "", "mirror", "peg p", CROSS] + no_strings():
            for text in (CROSS, "peg p"):
                with self.subTest(value=value, text=text):
                    self.assertIs(self.refused(NoName, value, Book(text).without, value), value)

    def test_used_names(self):
        for form, text in FORMS.items():
            book = Book(text)
            for name in book.names[:-1]:
                with self.subTest(form=form, name=name):
                    self.refused(Used, name, book.without, name)
            if len(book) > 1:
                self.assertEqual(book.without("z").names, book.names[:-1])

    def test_few(self):
        for text in ("mirror a", "peg a"):
            self.refused(Few, 1, Book(text).without, "a")

    def test_words_of_lines_are_no_use(self):
        book = Book("mirror through\npeg in\nmirror b through in\nmirror d\nmirror e from b in d\npeg is is in")
        self.assertEqual(book.without("through").names, ("in", "b", "d", "e", "is"))
        self.assertEqual(book.without("is").names, ("through", "in", "b", "d", "e"))
        self.refused(Used, "in", book.without, "in")
        book = Book("mirror in\nmirror b\nmirror d\nmirror e from b in d")
        self.assertEqual(book.without("in").text, "mirror b\nmirror d\nmirror e from b in d")

    def test_more_fit_again(self):
        full = Book(MIRRORS)
        self.assertEqual(full.without("a").told("mirror z").loose, tuple("bcde") + ("z",))


class Equal(unittest.TestCase):
    def test_equal_texts(self):
        for text in list(FORMS.values()) + [CROSS, KITE]:
            self.assertIs(Book(text) == Book(text), True)
            self.assertIs(Book(text) != Book(text), False)
        self.assertEqual(Book("mirror a").told("mirror b"), Book(TWO))
        self.assertEqual(Book("mirror a\nmirror b\npeg c").without("c"), Book(TWO))

    def test_other_texts(self):
        for one, other in ((TWO, "mirror b\nmirror a"), (TWO, "mirror a"), ("mirror a", "mirror b"),
                           ("mirror a", "peg a")):
            self.assertIs(Book(one) == Book(other), False)
            self.assertIs(Book(one) != Book(other), True)

    def test_nothing_else_is_equal(self):
        for one in (Book("peg q"), Book(TWO)):
            for other in all_values() + [TWO, "peg q", Strange(), Script("a"), Ratio(1)]:
                self.assertIs(one == other, False)
                self.assertIs(other == one, False)
                self.assertIs(one != other, True)


if __name__ == "__main__":
    unittest.main()
