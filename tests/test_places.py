"""The parts that drawings and tables are reckoned with: spots, leads, places and values."""

import unittest
from fractions import Fraction

from loosemirrors.books import Book
from loosemirrors.drawings import Drawing, drawn
from loosemirrors.leads import Lead, across_of, joined_leads, kind_of_lead, lead_of, led_by, middle_of, row_for
from loosemirrors.placing import PLACES, WAYS
from loosemirrors.ratios import Ratio
from loosemirrors.spots import Spot, dot_of, least_spot, spot_of
from loosemirrors.values import Part, added_up, divided
from tests.shelf import GREATEST, any_book
from tests.sketches import as_dot, reflected


def as_complex(spot):
    """Both parts of a spot."""
    return Fraction(spot.x, spot.under), Fraction(spot.y, spot.under)


def product(one, other):
    return one[0] * other[0] - one[1] * other[1], one[0] * other[1] + one[1] * other[0]


def power(number, many):
    """A power of a pair of Fractions, perhaps of a negative exponent."""
    if many < 0:
        square = number[0] * number[0] + number[1] * number[1]
        return power((number[0] / square, -number[1] / square), -many)
    return product(number, power(number, many - 1)) if many else (Fraction(1), Fraction(0))


class Spots(unittest.TestCase):
    def test_least_terms(self):
        spot = least_spot(6, -4, 10)
        self.assertEqual((spot.x, spot.y, spot.under), (3, -2, 5))
        spot = least_spot(0, 0, 7)
        self.assertEqual((spot.x, spot.y, spot.under), (0, 0, 1))
        spot = spot_of((Ratio(1, 2), Ratio(-2, 3)))
        self.assertEqual((spot.x, spot.y, spot.under), (3, -4, 6))
        self.assertEqual(dot_of(spot), (Ratio(1, 2), Ratio(-2, 3)))

    def test_equal_spots(self):
        self.assertEqual(Spot(1, 2, 3), least_spot(2, 4, 6))
        for other in (Spot(2, 2, 3), Spot(1, 1, 3), Spot(1, 2, 5), Spot(1, 2), (1, 2, 3), None):
            self.assertNotEqual(Spot(1, 2, 3), other)

    def test_reckoning(self):
        spots = [least_spot(x, y, under) for x in (-2, 0, 3) for y in (-1, 0, 2) for under in (1, 2, 5)]
        for one in spots:
            self.assertEqual(as_complex(-one), tuple(-part for part in as_complex(one)))
            self.assertEqual(as_complex(one.flipped()), (as_complex(one)[0], -as_complex(one)[1]))
            for other in spots:
                left, right = as_complex(one), as_complex(other)
                self.assertEqual(as_complex(one + other), (left[0] + right[0], left[1] + right[1]))
                self.assertEqual(as_complex(one * other), product(left, right))


class Leads(unittest.TestCase):
    def test_mirrors_and_pegs(self):
        for row in ((1, 0, 3), (0, 1, 3), (0, -2, 3), (3, 4, 5), (1, -1, 0), (0, 0), (2, -3)):
            lead = lead_of("mirror" if len(row) == 3 else "peg", row)
            for dot in ((0, 0), (1, 0), (5, -2)):
                fractions = tuple(Fraction(part) for part in dot)
                self.assertEqual(dot_of(led_by(lead, spot_of(dot))), as_dot(reflected(row, fractions)))

    def test_rows_of_leads(self):
        for row in ((1, 0, 3), (0, 1, 3), (0, -2, 3), (3, 4, 5), (6, -8, 5), (1, -1, 0), (-5, 3, Ratio(1, 7))):
            lead = lead_of("mirror", row)
            self.assertEqual(lead_of("mirror", row_for("mirror", lead)), lead)
            m, n = across_of(lead)
            self.assertEqual(m * row[1], n * row[0])
        for row in ((0, 0), (Ratio(1, 2), -3)):
            self.assertEqual(lead_of("peg", row_for("peg", lead_of("peg", row))), lead_of("peg", row))
            self.assertEqual(dot_of(middle_of(lead_of("peg", row))), tuple(Ratio(0) + part for part in row))

    def test_equal_leads(self):
        one = Lead(True, Spot(1, 0), Spot(0, 0))
        self.assertEqual(one, lead_of("mirror", (0, 1, 0)))
        for other in (Lead(False, Spot(1, 0), Spot(0, 0)), Lead(True, Spot(-1, 0), Spot(0, 0)),
                      Lead(True, Spot(1, 0), Spot(0, 1)), None):
            self.assertNotEqual(one, other)

    def test_kinds(self):
        flat, high, steep, slant = (lead_of("mirror", row) for row in ((0, 1, 0), (0, 1, 1), (1, 0, 0), (1, 1, 0)))
        for leads, word in (([], "nothing"), ([flat], "mirroring"), ([flat, high], "shift"),
                            ([flat, steep], "half turn"),
                            ([flat, slant], "turn"), ([flat, high, steep], "glide"),
                            ([flat, steep, slant], "mirroring"),
                            ([flat, flat], "nothing"), ([flat, steep, flat, steep], "nothing")):
            self.assertEqual(kind_of_lead(joined_leads(leads)), word)


class Places(unittest.TestCase):
    def test_drawings_of_many_trials(self):
        for text in GREATEST:
            book = Book(text)
            told = [drawn(book, trial) for trial in range(4)]
            for at, drawing in enumerate(told):
                self.assertEqual(Drawing(book, drawing.rows), drawing)
                self.assertNotIn(drawing, told[:at])
        for seed in range(40):
            book = any_book(seed, 2 + seed % 11)
            self.assertNotEqual(drawn(book, 1), drawn(book, 2))

    def test_choices_are_powers_of_primes_of_their_own(self):
        primes = WAYS + PLACES
        self.assertEqual((len(WAYS), len(PLACES)), (5, 24))
        self.assertEqual(len(set(primes)), 29)
        self.assertEqual([prime for prime in primes if any(prime % less == 0 for less in range(2, prime))], [])
        book = Book("mirror a\npeg p\nmirror b")
        rows = [drawn(book, trial).rows for trial in range(3)]
        for trial in range(3):
            self.assertEqual([rows[trial][at][0] for at in (0, 2)], [Ratio(2 ** (trial + 1)), Ratio(5 ** (trial + 1))])
            self.assertEqual(rows[trial][1], (Ratio(13 ** (trial + 1)), Ratio(17 ** (trial + 1))))

    def test_ways_of_the_first_trial_have_primes_of_their_own(self):
        # Of (way, 1) the square is such a prime, perhaps twice: so no power of a spin is that of others.
        squares = [way * way + 1 for way in WAYS]
        odd = [square // 2 if square % 2 == 0 else square for square in squares]
        self.assertEqual(odd, [5, 13, 61, 181, 421])


class Values(unittest.TestCase):
    def test_sums_of_powers(self):
        ways = [(2, 1), (3, -2)]
        spins = [power((Fraction(m), Fraction(n)), 2) for m, n in ways]
        spins = [(x / Fraction(m * m + n * n), y / Fraction(m * m + n * n)) for (x, y), (m, n) in zip(spins, ways)]
        terms = [((1, -3), 2, 1), ((4, -1), -1, 5), ((2, -2), 7, 0), ((3, -3), 1, 1), ((1, -1), 0, 3)]
        for chosen in (terms, terms[:1], terms[1:3], [((-a, -b), x, y) for (a, b), x, y in terms], [((0, 0), 1, 2)],
                       [((a - 3, b + 2), x, y) for (a, b), x, y in terms]):
            total = (Fraction(0), Fraction(0))
            for powers, x, y in chosen:
                part = (Fraction(x), Fraction(y))
                for spin, many in zip(spins, powers):
                    part = product(part, power(spin, many))
                total = (total[0] + part[0], total[1] + part[1])
            parts = [Part(x, y, powers, powers) for powers, x, y in chosen]
            found = divided(added_up(parts, 0, len(parts), ways), 3, ways)
            self.assertEqual(found, as_dot((total[0] / 3, total[1] / 3)))


if __name__ == "__main__":
    unittest.main()
