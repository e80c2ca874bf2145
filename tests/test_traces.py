"""Traces of spots, and looks at drawings whose spots leave like traces or none."""

import random
import unittest

from loosemirrors.books import Book
from loosemirrors.drawings import Drawing
from loosemirrors.leads import joined_leads, led_by
from loosemirrors.looks import left, shows_look
from loosemirrors.ratios import Ratio
from loosemirrors.scripts import Script
from loosemirrors.spots import Spot, least_spot
from loosemirrors.traces import PRIME, contrary_of, lead_trace, trace_led, trace_of, traces_in
from tests.shelf import any_book, any_row
from tests.sketches import any_rows, as_rows

PEGS = "peg p\npeg q"


class Traces(unittest.TestCase):
    def test_the_prime(self):
        self.assertEqual(PRIME, 2 ** 61 - 1)
        for number in (2, 3, 5, 7, 10 ** 9):
            self.assertEqual(pow(number, PRIME - 1, PRIME), 1)

    def test_contrary_numbers(self):
        for number in (1, 2, 3, 12345, PRIME - 1, PRIME - 2, 10 ** 18):
            self.assertEqual(number * contrary_of(number) % PRIME, 1)

    def test_spots(self):
        for x, y in ((0, 0), (5, 7), (PRIME - 1, 1)):
            self.assertEqual(trace_of(Spot(x, y)), Spot(x, y))
        self.assertEqual(trace_of(Spot(-1, PRIME + 3)), Spot(PRIME - 1, 3))
        half = trace_of(least_spot(1, -4, 2))
        self.assertEqual((half.x * 2 % PRIME, half.y, half.under), (1, PRIME - 2, 1))
        self.assertIsNone(trace_of(Spot(1, 0, PRIME)))
        self.assertIsNone(trace_of(Spot(1, 0, 6 * PRIME)))

    def test_traces_are_led_as_spots_are(self):
        for seed in range(60):
            book = any_book(seed, 2 + seed % 11)
            drawing = Drawing(book, as_rows(any_rows(book.text, seed)))
            script = any_row(book, seed, 9)
            spot = least_spot(3 - seed, 7, 1 + seed)
            traces = traces_in(drawing, book.names)
            end = led_by(joined_leads([drawing.leads[name] for name in script.steps]), spot)
            self.assertEqual(trace_led(traces, script.steps, trace_of(spot)), trace_of(end))

    def test_leads_that_leave_none(self):
        book = Book(PEGS)
        drawing = Drawing(book, ((Ratio(1, PRIME), 0), (3, 4)))
        traces = traces_in(drawing, book.names)
        self.assertIsNone(traces["p"])
        self.assertIsNotNone(traces["q"])
        self.assertIsNone(lead_trace(drawing.leads["p"]))
        one = trace_of(Spot(1, 1))
        self.assertIsNone(trace_led(traces, ("q", "p"), one))
        self.assertIsNone(trace_led(traces, ("p", "p"), one))
        self.assertIsNone(trace_led(traces, ("q",), None))
        self.assertEqual(trace_led(traces, (), one), one)
        self.assertEqual(trace_led(traces, ("q",), one), Spot(5, 7))


class LooksByTraces(unittest.TestCase):
    def texts(self, drawing, names, most, dot, end):
        found = left(drawing.book, names, most, ((drawing, dot, end),))
        return [[row.text for row in rows] for rows in found]

    def test_ends_of_like_traces(self):
        book = Book(PEGS)
        drawing = Drawing(book, ((0, 0), (PRIME, 0)))
        self.assertEqual(self.texts(drawing, ("p", "q"), 1, (1, 2), (-1, -2)), [["p"]])
        self.assertEqual(self.texts(drawing, ("p", "q"), 1, (1, 2), (2 * PRIME - 1, -2)), [["q"]])
        self.assertEqual(self.texts(drawing, ("p", "q"), 1, (1, 2), (PRIME - 1, -2)), [])
        self.assertEqual(self.texts(drawing, ("p", "q"), 2, (1, 2), (1 + 2 * PRIME, 2)), [["p q"]])
        self.assertIs(shows_look(book, ("p", "q"), 4, (), (drawing, (1, 2))), True)
        alike = Drawing(book, ((5, 0), (5, 0)))
        self.assertIs(shows_look(book, ("p", "q"), 1, (), (alike, (1, 2))), False)

    def test_where_leads_leave_no_traces(self):
        book = Book(PEGS)
        drawing = Drawing(book, ((Ratio(1, PRIME), 0), (0, 1)))
        self.assertEqual(self.texts(drawing, ("p", "q"), 2, (0, 0), (Ratio(2, PRIME), 0)), [["p"]])
        self.assertEqual(self.texts(drawing, ("p", "q"), 2, (0, 0), (0, 2)), [["q"]])
        self.assertEqual(self.texts(drawing, ("p", "q"), 2, (0, 0), (0, 0)), [["", "p p", "q q"]])
        self.assertEqual(self.texts(drawing, ("p", "q"), 2, (0, 0), (Ratio(-2, PRIME), 2)), [["p q"]])
        self.assertEqual(self.texts(drawing, ("p", "q"), 2, (0, 0), (Ratio(3, PRIME), 2)), [])
        self.assertIs(shows_look(book, ("p", "q"), 4, (), (drawing, (1, 2))), True)
        # The row p leaves no trace, and it leads this dot to where it is.
        self.assertIs(shows_look(book, ("p", "q"), 1, (), (drawing, (Ratio(1, PRIME), 0))), False)

    def test_where_a_row_without_a_trace_ends_where_another_one_does(self):
        # Both mirrors leave no traces, but one behind the other they are the half turn of the peg.
        book = Book("mirror a\nmirror b\npeg p")
        flat = Drawing(book, ((1, 0, Ratio(1, PRIME)), (1, 0, Ratio(1, PRIME) + 2), (1, 1)))
        self.assertIs(shows_look(book, ("a", "b", "p"), 2, (), (flat, (-1, 1))), False)
        looks = ((flat, (-1, 1), (3, 1)),)
        self.assertEqual([[row.text for row in rows] for rows in left(book, ("a", "b", "p"), 2, looks)], [["p"], ["a b"]])
        self.assertIs(shows_look(book, ("a", "b", "p"), 2, looks, (flat, (-1, 1))), False)
        self.assertIs(shows_look(book, ("a", "b", "p"), 2, looks, (flat, (0, 0))), True)
        self.assertIs(shows_look(book, ("a", "b"), 2, (), (flat, (-1, 1))), True)

    def test_dots_that_leave_no_traces(self):
        book = Book(PEGS)
        drawing = Drawing(book, ((1, 0), (0, 1)))
        dot = (Ratio(1, PRIME), Ratio(5, 3 * PRIME))
        self.assertEqual(self.texts(drawing, ("p", "q"), 2, dot, drawing.led(Script("q p"), dot)), [["q p"]])
        self.assertEqual(self.texts(drawing, ("p", "q"), 2, dot, (1, 1)), [])
        self.assertEqual(self.texts(drawing, ("p", "q"), 2, (1, 1), dot), [])
        self.assertIs(shows_look(book, ("p", "q"), 2, (), (drawing, dot)), True)

    def test_great_numbers(self):
        chance = random.Random(5)
        for seed in range(20):
            book = any_book(seed, 3 + seed % 10)
            rows = any_rows(book.text, seed, 10 ** 30, 10 ** 20)
            drawing = Drawing(book, as_rows(rows))
            names = tuple(sorted(chance.sample(book.names, 3), key=book.names.index))
            hidden = Script(" ".join(chance.choice(names) for _ in range(3)))
            dot = (Ratio(chance.randint(0, 10 ** 40), PRIME + 2), Ratio(PRIME * 7))
            end = drawing.led(hidden, dot)
            found = left(book, names, 3, ((drawing, dot, end),))
            self.assertTrue(any(hidden in rows for rows in found))
            for part in found:
                for row in part:
                    self.assertEqual(drawing.led(row, dot), end)
            self.assertEqual(left(book, names, 3, ((drawing, dot, (end[0] + PRIME, end[1])),)), ())


if __name__ == "__main__":
    unittest.main()
