import itertools
import random
import unittest

from loosemirrors.books import Book
from loosemirrors.choosing import cheapest
from loosemirrors.claims import judged
from loosemirrors.errors import BadBook, BadOffers, BadWishes
from tests.refusals import Refusals
from tests.samples import all_values, nested
from tests.shelf import CROSS, GREATEST, KITE, any_book, any_claim, any_line

C_ALONG_A = ("c", "mirror c along a through p", 2)
C_ALONG_B = ("c", "mirror c along b through p", 1)
B_LOOSE = ("b", "mirror b through p", 1)
C_FREE = ("c", "mirror c", 3)
SURE = (("peg p is a b", "always"),)


def choices_plainly(offers):
    """All choices, in sequence."""
    found = [choice for many in range(5) for choice in itertools.combinations(offers, many)
             if len({offer[0] for offer in choice}) == many]
    return sorted(found, key=lambda choice: (sum(offer[2] for offer in choice), len(choice), choice))


def plainly(book, offers, wishes):
    """What cheapest is to tell."""
    reasons = []
    for choice in choices_plainly(offers):
        lines = {name: line for name, line, _ in choice}
        try:
            chosen = Book("\n".join(lines.get(name, book[name]) for name in book.names))
        except BadBook:
            continue
        wrong = [at for at, (claim, word) in enumerate(wishes) if judged(chosen, claim)[0] != word]
        if not wrong:
            return "choice", sum(offer[2] for offer in choice), choice, tuple(reasons)
        reasons.append((choice, wrong[0]))
    return "none", tuple(reasons)


class Cheapest(Refusals):
    def check(self, book, offers, wishes, expected):
        found = cheapest(book, offers, wishes)
        self.assertEqual(found, expected)
        self.assertEqual([type(part) for part in found], [type(part) for part in expected])
        self.assertEqual([type(reason) for reason in found[-1]], [tuple] * len(found[-1]))
        self.assertEqual(cheapest(book, offers, wishes), found)

    def test_example(self):
        cross = Book(CROSS)
        self.check(cross, (C_ALONG_A, C_ALONG_B), (("mirror c is a", "always"),),
                   ("choice", 2, (C_ALONG_A,), (((), 0), ((C_ALONG_B,), 0))))

    def test_without_a_choice(self):
        cross = Book(CROSS)
        self.check(cross, (C_ALONG_A,), SURE, ("choice", 0, (), ()))
        self.check(cross, (C_ALONG_A, C_ALONG_B), SURE + (("mirror c is a", "not"),), ("choice", 0, (), ()))

    def test_none(self):
        cross = Book(CROSS)
        self.check(cross, (C_ALONG_A, C_ALONG_B), (("peg p is a b", "not"),),
                   ("none", (((), 0), ((C_ALONG_B,), 0), ((C_ALONG_A,), 0))))
        self.check(cross, (C_ALONG_A,), (("mirror a is a", "not"),), ("none", (((), 0), ((C_ALONG_A,), 0))))

    def test_reasons_tell_the_first_wish_that_does_not_come_true(self):
        cross = Book(CROSS)
        wishes = (("mirror c is a", "always"), ("peg p is a b", "not"), ("mirror c through p", "not"))
        self.check(cross, (B_LOOSE, C_FREE, C_ALONG_A), wishes, ("none", (
            ((), 0), ((B_LOOSE,), 0), ((C_ALONG_A,), 1), ((C_FREE,), 0), ((B_LOOSE, C_ALONG_A), 2), ((B_LOOSE, C_FREE), 0))))
        self.check(cross, (B_LOOSE, C_FREE, C_ALONG_A), wishes[:2], (
            "choice", 3, (B_LOOSE, C_ALONG_A), (((), 0), ((B_LOOSE,), 0), ((C_ALONG_A,), 1), ((C_FREE,), 0))))

    def test_choices_of_like_price(self):
        book = Book("mirror a\nmirror b\npeg p\npeg q\npeg r")
        offers = (("p", "peg p on a", 1), ("p", "peg p on b", 2), ("q", "peg q on a", 1), ("r", "peg r amid p q", 2))
        one, two, three, four = offers
        wishes = (("mirror a is b", "always"),)
        self.check(book, offers, wishes, ("none", tuple((choice, 0) for choice in (
            (), (one,), (three,), (two,), (four,), (one, three), (one, four), (two, three), (three, four), (two, four),
            (one, three, four), (two, three, four)))))
        self.check(book, offers, (("peg r amid p q", "always"),), (
            "choice", 2, (four,), (((), 0), ((one,), 0), ((three,), 0), ((two,), 0))))
        self.check(book, offers, (("peg q on a", "always"), ("peg p on b", "always")), (
            "choice", 3, (two, three), (((), 0), ((one,), 0), ((three,), 1), ((two,), 0), ((four,), 0),
                                        ((one, three), 1), ((one, four), 0))))

    def test_choices_that_do_not_count(self):
        # Six mirrors were loose with both.
        book = Book("peg p\nmirror a\nmirror b\nmirror c\nmirror d\nmirror e along a through p\nmirror f along b through p")
        offers = (("e", "mirror e", 2), ("f", "mirror f through p", 1), ("f", "mirror f across a through p", 1))
        e, f, across = offers
        offers = (e, across, f)
        wishes = (("mirror e through p", "not"), ("mirror f along b through p", "not"))
        self.check(book, offers, wishes, ("choice", 3, (e, across), (
            ((), 0), ((across,), 0), ((f,), 0), ((e,), 1))))
        self.check(book, (e, f), wishes, ("none", (((), 0), ((f,), 0), ((e,), 1))))
        # A later line with `is` cannot stand.
        book = Book("peg p\nmirror a through p\nmirror b through p\nmirror c through p\nmirror d is a b c")
        free, along = ("a", "mirror a", 1), ("b", "mirror b along a through p", 9)
        self.check(book, (free, along), (("mirror d is c", "always"),), ("choice", 9, (along,), (((), 0),)))
        self.check(book, (free,), (("mirror d is c", "always"),), ("none", (((), 0),)))
        # Nor do lines whose own row is none.
        row = ("d", "mirror d is a b", 1)
        self.check(book, (row,), (("mirror d is c", "always"),), ("none", (((), 0),)))
        # Where but two together are a book.
        back = ("d", "mirror d is b", 2)
        self.check(book, (free, back), (("mirror a through p", "not"),),
                   ("choice", 3, (free, back), (((), 0), ((back,), 0))))

    def test_four_offers_for_one_name(self):
        cross = Book(CROSS)
        offers = tuple(("c", f"mirror c{form}", 9) for form in (" across a through p", " along a through p", " through p"))
        offers = (("c", "mirror c", 9),) + offers
        self.check(cross, offers, (("mirror c is b", "always"),), (
            "choice", 9, (offers[1],), (((), 0), ((offers[0],), 0))))
        self.check(cross, offers, (("mirror c is p", "always"),), (
            "none", tuple((choice, 0) for choice in [()] + [(offer,) for offer in offers])))

    def test_one_line_at_two_prices(self):
        cross = Book(CROSS)
        cheap, dear = ("c", "mirror c along a through p", 1), C_ALONG_A
        self.check(cross, (cheap, dear), (("mirror c is a", "always"),), ("choice", 1, (cheap,), (((), 0),)))
        self.check(cross, (cheap, dear), (("mirror c is b", "always"),), (
            "none", (((), 0), ((cheap,), 0), ((dear,), 0))))

    def test_a_line_of_the_book_itself(self):
        own = ("b", "mirror b across a through p", 1)
        self.check(Book(CROSS), (own,), (("mirror a is c", "always"),), ("none", (((), 0), ((own,), 0))))

    def test_claims_by_names_behind_and_even(self):
        kite = Book(KITE)
        offer = ("r", "peg r", 1)
        self.check(kite, (offer,), (("even p r q r", "not"), ("mirror a through s", "always")),
                   ("choice", 1, (offer,), (((), 0),)))

    def test_plainly(self):
        counted = []
        for seed in range(400):
            chance = random.Random(seed)
            book = any_book(seed % 80, 3 + seed % 10)
            offers = self.any_offers(book, chance)
            wishes = tuple((any_claim(book, chance), chance.choice(("always", "not"))) for _ in range(chance.randint(1, 3)))
            if offers:
                expected = plainly(book, offers, wishes)
                counted.append(expected[0])
                with self.subTest(text=book.text, offers=offers, wishes=wishes):
                    self.check(book, offers, wishes, expected)
        self.assertGreater(counted.count("choice"), 80)
        self.assertGreater(counted.count("none"), 80)

    def any_offers(self, book, chance):
        """Offers by lines of any form that tell a name of the book by those ahead."""
        found = set()
        for _ in range(60):
            at = chance.randrange(len(book))
            name, ahead = book.names[at], book.names[:at]
            line = any_line(name, [one for one in ahead if one in book.mirrors],
                            [one for one in ahead if one in book.pegs], chance)
            offer = (name, line, chance.randint(1, 4))
            try:
                cheapest(book, (offer,), ((f"{book[name].split(' ')[0]} {name} is {name}", "always"),))
            except BadOffers:
                continue
            found.add(offer)
        return tuple(sorted(chance.sample(sorted(found), min(len(found), 4))))

    def test_greatest(self):
        for text in GREATEST:
            book = Book(text)
            offers = tuple(sorted((name, f"{book[name].split(' ')[0]} {name}", 1 + at)
                                  for at, name in enumerate(book.names[-4:])))
            wishes = tuple((line, "always") for line in text.split("\n")[-3:])
            self.check(book, offers, wishes, ("choice", 0, (), ()))
            wishes = tuple((line, "not") for line in text.split("\n")[-3:])
            self.check(book, offers, wishes, plainly(book, offers, wishes))

    def test_names_of_the_arguments(self):
        self.assertEqual(cheapest(wishes=SURE, offers=(C_FREE,), book=Book(CROSS)), ("choice", 0, (), ()))


# What are no offers of CROSS.
NO_OFFERS = (
    (), [C_FREE], C_FREE, (C_ALONG_B, C_ALONG_A), (C_FREE, C_FREE), (C_FREE, B_LOOSE), (list(C_FREE),), (C_FREE[:2],),
    (C_FREE + (1,),), ((),), (None,), ("c",), {C_FREE: 1}, ((C_FREE,),), (C_FREE, None), (None, C_FREE),
    (B_LOOSE, C_ALONG_A, C_ALONG_B, C_FREE, ("p", "peg p", 1)),
    tuple(("c", "mirror c", price) for price in (1, 2, 3, 4, 5)),
    (("c", "mirror c", 0),), (("c", "mirror c", 10),), (("c", "mirror c", -1),), (("c", "mirror c", True),),
    (("c", "mirror c", "1"),), (("c", "mirror c", None),), (("c", "mirror c", 10 ** 400),), (("c", "mirror c", (1,)),),
    (("z", "mirror z", 1),), (("c", "mirror z", 1),), (("c", "mirror b", 1),), (("c", "peg c", 1),), (("p", "mirror p", 1),),
    (("c", "peg c is a b", 1),), (("c", "mirror c through z", 1),), (("c", "mirror c through c", 1),),
    (("a", "mirror a along b through p", 1),), (("a", "mirror a across c through p", 1),), (("a", "mirror a is b", 1),),
    (("a", "mirror a is a", 1),), (("p", "peg p on a", 1),), (("b", "mirror b from a in c", 1),),
    (("c", "mirror c from a in a", 1),), (("c", "mirror c from a in p", 1),), (("c", "mirror c along p through a", 1),),
    (("c", "mirror c through a", 1),), (("c", "mirror c is a b a b a b a", 1),), (("c", "mirror c is", 1),),
    (("c", "mirror c  through p", 1),), (("c", "mirror c ", 1),), (("c", " mirror c", 1),), (("c", "mirror", 1),),
    (("c", "", 1),), (("c", "c", 1),), (("c", "mirror c\n", 1),), (("c", None, 1),), (("c", ("mirror c",), 1),),
    (("c", 1, 1),), ((None, "mirror c", 1),), ((("c",), "mirror c", 1),), ((["c"], "mirror c", 1),), ((1, "mirror c", 1),),
    (("c", "even p p p p", 1),), (("C", "mirror c", 1),), ((nested(27), "mirror c", 1),), (("c", nested(27), 1),),
    (("c", "mirror c", nested(27)),), (("c", "mirror d\nmirror c", 1),), (("c", "mirror c along a across p", 1),),
)

# What are no wishes of CROSS.
ONE = ("peg p is a b", "always")
NO_WISHES = (
    (), [ONE], ONE, (ONE,) * 4, (list(ONE),), (ONE[:1],), (ONE + (1,),), ((),), (None,), ("peg p is a b",), {ONE: 1}, ((ONE,),),
    (ONE, None), (None, ONE), (("peg p is a b", "Always"),), (("peg p is a b", "sure"),), (("peg p is a b", None),),
    (("peg p is a b", True),), (("peg p is a b", ("always",)),), (("peg p is a b", ["not"]),), (("always", "peg p is a b"),),
    (("peg p is z", "not"),), (("mirror a", "not"),), (("peg p", "always"),), (("", "not"),), ((None, "not"),), ((1, "not"),),
    ((("peg p is a b",), "not"),), (("even p p p p", "not"),), (("peg p is a b ", "not"),), (("mirror a is b\n", "not"),),
    (("mirror p is p", "not"),), (ONE, ("peg z is a b", "not")), (("peg p is a b", "not "),), (("peg p is a b", ""),),
    ((nested(27), "not"),), (("peg p is a b", nested(27)),), (ONE, ONE, ONE, None),
)


class Refused(Refusals):
    def test_no_offers(self):
        cross = Book(CROSS)
        for value in list(NO_OFFERS) + all_values():
            for wishes in (SURE, None, (), (("z", "always"),)):
                with self.subTest(value=value, wishes=wishes):
                    self.assertIs(self.refused(BadOffers, value, cheapest, cross, value, wishes), value)

    def test_no_wishes(self):
        cross = Book(CROSS)
        for value in list(NO_WISHES) + all_values():
            with self.subTest(value=value):
                self.assertIs(self.refused(BadWishes, value, cheapest, cross, (C_FREE,), value), value)

    def test_offers_that_are_some_though_no_book_comes_of_them(self):
        for offer in (("c", "mirror c is a b", 1), ("c", "mirror c is p", 1), ("c", "mirror c is a b a b a b", 1),
                      ("c", "mirror c from a in b", 9), ("p", "peg p", 9), ("a", "mirror a", 1)):
            self.assertEqual(cheapest(Book(CROSS), (offer,), (("mirror c is c", "always"),)), ("choice", 0, (), ()))

    def test_wishes_that_are_some(self):
        for many in (1, 2, 3):
            self.assertEqual(cheapest(Book(CROSS), (C_FREE,), (ONE,) * many), ("choice", 0, (), ()))


if __name__ == "__main__":
    unittest.main()
