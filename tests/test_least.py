import random
import unittest

from loosemirrors.books import Book
from loosemirrors.drawings import draw
from loosemirrors.errors import BadNames, BadNumber, BadScript
from loosemirrors.kinds import kind, same
from loosemirrors.least import nothings, shortest, shows_shortest
from loosemirrors.scripts import Script
from tests.plainly import Plainly, parts_of, rows_up_to
from tests.refusals import Refusals
from tests.samples import Strange, all_values, nested
from tests.shelf import CROSS, GREATEST, KITE, TWO, any_book, any_row

PEGS = "peg p\npeg q\npeg r\npeg s"
STAR = "peg p\nmirror a through p\nmirror b through p\nmirror c through p"
RAILS = "mirror a\npeg p\nmirror b along a through p\npeg q\nmirror c along a through q"
LOOSE = "mirror a\nmirror b\nmirror c\nmirror d"

# A book, names, most, and the texts of all rows, by hand.
BY_HAND = (
    (CROSS, ("p",), 1, []), (CROSS, ("p",), 2, ["p p"]), (CROSS, ("p",), 6, ["p p"]),
    (CROSS, ("p", "a"), 4, ["a a", "p p", "a p a p", "p a p a"]), (CROSS, ("p", "a"), 1, []),
    (CROSS, ("p", "a"), 6, ["a a", "p p", "a p a p", "p a p a"]), (CROSS, ("p", "a"), 3, ["a a", "p p"]),
    (CROSS, ("p", "a", "b"), 3, ["a a", "b b", "p p", "a b p", "a p b", "b a p", "b p a", "p a b", "p b a"]),
    (CROSS, ("a", "b"), 4, ["a a", "b b", "a b a b", "b a b a"]), (CROSS, ("a", "c"), 6, ["a a", "c c"]),
    (TWO, ("a", "b"), 6, ["a a", "b b"]), (TWO, ("b",), 6, ["b b"]),
    (STAR, ("a", "b", "c"), 5, ["a a", "b b", "c c"]),
    (STAR, ("a", "b", "c"), 6, ["a a", "b b", "c c", "a b c a b c", "a c b a c b", "b a c b a c", "b c a b c a",
                                "c a b c a b", "c b a c b a"]),
    (RAILS, ("a", "b", "c"), 6, ["a a", "b b", "c c", "a b c a b c", "a c b a c b", "b a c b a c", "b c a b c a",
                                 "c a b c a b", "c b a c b a"]),
    (PEGS, ("p", "q", "r"), 6, ["p p", "q q", "r r", "p q r p q r", "p r q p r q", "q p r q p r", "q r p q r p",
                                "r p q r p q", "r q p r q p"]),
    (PEGS, ("p", "q"), 6, ["p p", "q q"]), (LOOSE, ("a", "b", "c", "d"), 6, ["a a", "b b", "c c", "d d"]),
    (KITE, ("a", "p", "q"), 4, ["a a", "p p", "q q", "a p a q", "a q a p", "p a q a", "q a p a"]),
    (KITE, ("p", "q", "s"), 4, ["p p", "q q", "s s", "p s q s", "q s p s", "s p s q", "s q s p"]),
    (KITE, ("a", "r"), 4, ["a a", "r r", "a r a r", "r a r a"]),
    ("peg p\nmirror a through p\nmirror b is a", ("a", "b"), 6, ["a a", "a b", "b a", "b b"]),
    ("peg a\npeg ab\nmirror b through a\nmirror aa through ab", ("a", "ab", "b", "aa"), 2,
     ["a a", "aa aa", "ab ab", "b b"]),
    ("peg a\npeg ab\nmirror b through a\nmirror aa through ab", ("a", "ab", "b", "aa"), 4,
     ["a a", "aa aa", "ab ab", "b b", "a b a b", "aa ab aa ab", "ab aa ab aa", "b a b a"]),
)

# Names of CROSS that are none.
NO_NAMES = ((), ("z",), ("a", "a"), ("a", "p"), ("c", "b"), ("p", "a", "c", "b"), ("p", "a", "b", "c", "c"),
            ("p", "a", "b", "c", "d"), ["p"], ["p", "a"], "p", "a", {"p": 1}, ("p", None), (1,), (True,), (("p",),),
            ("p a",), ("p", "a", "z"), ("", "a"), ("p", ["a"]), (Script("a"),), (nested(29),), ("P",))

# Scripts, names, and how many steps a shortest row has; None if there is none.
SHORTEST = (
    (CROSS, ("a", "b"), "p", 2), (CROSS, ("p",), "a b c c", 1), (CROSS, ("a",), "b", None), (CROSS, ("a",), "", 0),
    (CROSS, ("c",), "a a", 0), (CROSS, ("c",), "p p", 0), (CROSS, ("p", "a", "b"), "a p", 1),
    (CROSS, ("p", "a"), "b", 2), (CROSS, ("p", "a", "b", "c"), "a b c", 2), (CROSS, ("a", "b", "c"), "p c", 3),
    (CROSS, ("a", "c"), "a c a c a c", 6), (CROSS, ("a", "c"), "a c a c a c a", None),
    (CROSS, ("a", "b"), "a b a b a b a b a b a b a b a b a b a b a b a b", 0),
    (CROSS, ("a", "b"), "a b a b a b a b a b a b a b a b a b a b a b a", 1),
    (CROSS, ("a", "c"), "a c " * 11 + "a c", None), (TWO, ("a", "b"), "a b a b a b", 6), (TWO, ("a", "b"), "b a b", 3),
    (TWO, ("a", "b"), "a b a b a b a", None), (TWO, ("a",), "b a b", None), (TWO, ("a", "b"), "a b " * 11 + "b a", None),
    (STAR, ("a", "b", "c"), "c b a c b", 1), (STAR, ("a", "b", "c"), "c b a", 3),
    (STAR, ("a", "b", "c"), "a b c b a b c a", 6), (STAR, ("p",), "a b", None),
    (RAILS, ("a", "b"), "c", None), (RAILS, ("a", "b", "c"), "c b a", 3), (PEGS, ("p", "q", "r"), "r q p q r q p", None),
    (PEGS, ("p", "q", "r", "s"), "s r q p", 4), (PEGS, ("p", "q", "r", "s"), "p q r s r q", 6),
    (PEGS, ("p", "q", "r", "s"), "p q r p q s", 2),
    (PEGS, ("p", "q", "r", "s"), "p q r s p r", 4), (PEGS, ("p", "q"), "p q p q p q", 6),
    (PEGS, ("p", "q"), "p q p q p q p q", None), (PEGS, ("p",), "q", None),
    (KITE, ("a", "p"), "q", 3), (KITE, ("p", "q"), "s", None), (KITE, ("p", "q", "s"), "q s", 2),
    (KITE, ("a", "s"), "p q a", None), (KITE, ("a", "p"), "q a p a", 0), (KITE, ("a", "q"), "p p a q a", 3),
)


class Nothings(Refusals):
    def test_by_hand(self):
        for text, names, most, rows in BY_HAND:
            with self.subTest(text=text, names=names, most=most):
                found = nothings(Book(text), names, most)
                self.assertIs(type(found), tuple)
                self.assertEqual([type(row) for row in found], [Script] * len(found))
                self.assertEqual([row.text for row in found], rows)
                self.assertEqual(nothings(Book(text), names, most), found)

    def test_plainly(self):
        for seed in range(60):
            book = any_book(seed, 3 + seed % 10)
            chance = random.Random(seed)
            many = min(1 + seed % 4, len(book))
            names = tuple(sorted(chance.sample(book.names, many), key=book.names.index))
            most = {1: 6, 2: 6, 3: 5, 4: 4}[many]
            plainly = Plainly(book.text)
            least = [row for row in rows_up_to(names, most)[1:] if plainly.does_nothing(row)
                     and not any(plainly.does_nothing(part) for part in parts_of(row))]
            with self.subTest(text=book.text, names=names):
                self.assertEqual([row.steps for row in nothings(book, names, most)], least)

    def test_fewer_steps_tell_the_first_of_them(self):
        for text, names in ((CROSS, ("p", "a", "b", "c")), (KITE, ("a", "p", "q", "r")), (KITE, ("p", "q", "r", "s")),
                            (PEGS, ("p", "q", "r", "s")), (GREATEST[1], ("a", "b", "g", "h"))):
            book = Book(text)
            longest = nothings(book, names, 6)
            for most in range(1, 7):
                self.assertEqual(nothings(book, names, most), tuple(row for row in longest if len(row) <= most))
            for row in longest:
                self.assertEqual(kind(book, row)[0], "nothing")
                for part in parts_of(row.steps):
                    self.assertNotEqual(kind(book, Script(" ".join(part)))[0], "nothing")

    def test_in_sequence(self):
        for text, names, _, _ in BY_HAND:
            found = [(len(row), row.text) for row in nothings(Book(text), names, 6)]
            self.assertEqual(found, sorted(set(found)))

    def test_four_names_and_six_steps_in_twelve_lines(self):
        for text in GREATEST:
            book = Book(text)
            plainly = Plainly(text)
            for names in (book.names[:4], book.names[-4:], book.names[2:12:3]):
                for row in nothings(book, names, 6):
                    self.assertTrue(plainly.does_nothing(row.steps))
                self.assertLessEqual({f"{name} {name}" for name in names},
                                     {row.text for row in nothings(book, names, 6)})

    def test_no_names(self):
        book = Book(CROSS)
        for value in list(NO_NAMES) + [value for value in all_values() if value != ("p",)]:
            for most in (3, 0, None, True):
                with self.subTest(value=value):
                    self.assertIs(self.refused(BadNames, value, nothings, book, value, most), value)

    def test_four_names_and_five(self):
        book = Book(KITE)
        self.assertEqual(len(nothings(book, book.names[:4], 2)), 4)
        for names in (book.names, book.names[:4] + ("s", "s")):
            self.assertIs(self.refused(BadNames, names, nothings, book, names, 2), names)
            self.assertIs(self.refused(BadNames, names, shortest, book, names, Script("a")), names)
            self.assertIs(self.refused(BadNames, names, shows_shortest, book, names, Script("a"), ("none",)), names)

    def test_no_numbers(self):
        book = Book(CROSS)
        for value in all_values() + [7, 0, -1, 10 ** 400, "1", 1.0, (1,), Strange()]:
            if type(value) is int and 1 <= value <= 6:
                continue
            with self.subTest(value=value):
                self.assertIs(self.refused(BadNumber, value, nothings, book, ("p", "a"), value), value)

    def test_names_of_the_arguments(self):
        self.assertEqual([row.text for row in nothings(most=2, names=("p",), book=Book(CROSS))], ["p p"])


class Shortest(Refusals):
    def check(self, book, names, script):
        found = shortest(book, names, script)
        self.assertIs(type(found), tuple)
        self.assertEqual(shortest(book, names, script), found)
        self.assertIs(shows_shortest(book, names, script, found), True)
        if found == ("none",):
            return None
        word, row = found
        self.assertEqual((word, type(row)), ("row", Script))
        self.assertLessEqual(set(row.steps), set(names))
        self.assertLessEqual(len(row), 6)
        self.assertEqual(same(book, row, script), ("same",))
        return len(row)

    def test_by_hand(self):
        for text, names, row, many in SHORTEST:
            with self.subTest(text=text, names=names, row=row):
                self.assertEqual(self.check(Book(text), names, Script(row)), many)

    def test_plainly(self):
        for seed in range(80):
            book = any_book(seed, 3 + seed % 10)
            chance = random.Random(seed)
            many = min(1 + seed % 4, len(book))
            names = tuple(sorted(chance.sample(book.names, many), key=book.names.index))
            most = {1: 6, 2: 6, 3: 5, 4: 4}[many]
            plainly = Plainly(book.text)
            # A row of these names, or of any.
            own = Script(" ".join(chance.choice(names) for _ in range(chance.randint(0, 2 * most))))
            for script in (own, any_row(book, seed, 4)):
                alike = [row for row in rows_up_to(names, most) if plainly.end(row) == plainly.end(script.steps)]
                with self.subTest(text=book.text, names=names, script=script):
                    found = self.check(book, names, script)
                    if alike:
                        self.assertEqual(found, len(alike[0]))
                    else:
                        self.assertTrue(found is None or found > most)

    def test_any_of_the_shortest_rows_is_shown(self):
        for text, names, row, many in SHORTEST:
            book, script = Book(text), Script(row)
            plainly = Plainly(text)
            rows = rows_up_to(names, 6 if len(names) < 4 else 4)
            for other in rows:
                right = len(other) == many and plainly.end(other) == plainly.end(script.steps)
                if right or len(other) < 3 or plainly.end(other) == plainly.end(script.steps):
                    with self.subTest(text=text, names=names, row=row, other=other):
                        told = shows_shortest(book, names, script, ("row", Script(" ".join(other))))
                        self.assertIs(told, right)
            self.assertIs(shows_shortest(book, names, script, ("none",)), many is None)

    def test_shown_values_by_hand(self):
        book = Book(CROSS)
        for names, row, value, right in (
            (("a", "b"), "p", "a b", True), (("a", "b"), "p", "b a", True), (("a", "b"), "p", "p", False),
            (("a", "b"), "p", "a b a a", False), (("a", "b"), "p", "a", False), (("a", "b"), "p", "", False),
            (("p", "a", "b"), "p", "a b", False), (("p", "a", "b"), "p", "p", True), (("c",), "p p", "", True),
            (("c",), "p p", "c c", False), (("p", "c"), "b a", "z", False), (("p", "c"), "b a", "p", True),
            (("p", "c"), "b a", "p p p", False), (("a",), "b", "b", False), (("a",), "b", "", False),
            (("a", "c"), "a c a c a c a", "a c a c a c a", False),
        ):
            with self.subTest(names=names, row=row, value=value):
                self.assertIs(shows_shortest(book, names, Script(row), ("row", Script(value))), right)

    def test_other_values(self):
        book, names, script = Book(CROSS), ("a", "b"), Script("p")
        row = Script("a b")
        self.assertIs(shows_shortest(book, names, script, ("row", row)), True)
        others = all_values() + [
            ("none",), ("row",), ["row", row], ("row", row, row), (row, "row"), ("row", "a b"), ("row", ("a", "b")),
            ("row", [row]), ("Row", row), (None, row), ("none", row), ("row", None), "row", row, ("same", row),
            ("row", Script("a c")), ("row", Script("a p")), (["row"], row), {"row": row}, (("row", row),), ("row", (row,)),
            (nested(29), row), ("row", nested(29)), ("row", draw(book)),
        ]
        for value in others:
            with self.subTest(value=value):
                self.assertIs(shows_shortest(book, names, script, value), False)

    def test_other_values_where_there_is_none(self):
        book, names, script = Book(CROSS), ("a",), Script("b")
        self.assertIs(shows_shortest(book, names, script, ("none",)), True)
        others = all_values() + [("row", Script("a")), ("row", Script("b")), ["none"], "none", ("None",), ("none", None),
                                 ("none", "none"), (None,), (("none",),), ("row",), (nested(29),)]
        for value in others:
            with self.subTest(value=value):
                self.assertIs(shows_shortest(book, names, script, value), False)

    def test_greatest(self):
        for text in GREATEST:
            book = Book(text)
            long = Script(" ".join((book.names * 2)[:24]))
            for names in (book.names[:4], book.names[-4:], book.names[1:12:3]):
                self.check(book, names, long)
                self.check(book, names, long.plain)
                around = Script(" ".join(book.names + book.names[::-1]))
                self.assertEqual(self.check(book, names, around), 0)
                six = Script(" ".join((names * 2)[:6]))
                self.assertLessEqual(self.check(book, names, six), 6)
        third = Book(GREATEST[2])
        self.assertEqual(self.check(third, ("r", "s", "t", "u"), Script("t s r u t s r u r s t u t")), 1)

    def test_no_names(self):
        book = Book(CROSS)
        for value in list(NO_NAMES) + all_values():
            for script in (Script("a"), Script("z"), None):
                with self.subTest(value=value):
                    self.assertIs(self.refused(BadNames, value, shortest, book, value, script), value)
                    self.assertIs(self.refused(BadNames, value, shows_shortest, book, value, script, ("none",)), value)

    def test_no_scripts(self):
        book = Book(CROSS)
        for value in all_values() + [Script("z"), Script("a z"), "a", ("a",)]:
            if value not in (Script(""), Script("a b")):
                with self.subTest(value=value):
                    self.assertIs(self.refused(BadScript, value, shortest, book, ("a",), value), value)
                    self.assertIs(self.refused(BadScript, value, shows_shortest, book, ("a",), value, ("none",)), value)

    def test_scripts_of_other_names_than_those_of_the_row(self):
        self.assertEqual(shortest(Book(CROSS), ("a",), Script("b b a")), ("row", Script("a")))

    def test_names_of_the_arguments(self):
        found = shortest(script=Script("a b"), names=("p",), book=Book(CROSS))
        self.assertIs(shows_shortest(value=found, script=Script("a b"), names=("p",), book=Book(CROSS)), True)


if __name__ == "__main__":
    unittest.main()
