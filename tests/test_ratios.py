import unittest
from fractions import Fraction

from loosemirrors.errors import BadRatio, BadText
from loosemirrors.ratios import Ratio
from loosemirrors.scripts import Script
from tests.refusals import Refusals
from tests.samples import LONG, Strange, all_values, no_numbers, no_strings

# Several hundred figures, without shared factors.
HUGE = 7 ** 500
OTHER = 10 ** 600 + 1


def parts(ratio):
    return ratio.number, ratio.under, ratio.text


def grid():
    return [Ratio(number, under) for number in range(-6, 7) for under in range(1, 6)]


def as_fraction(number):
    return Fraction(number.number, number.under) if isinstance(number, Ratio) else Fraction(number)


class Making(Refusals):
    def test_least_terms(self):
        cases = [
            ((3, 1), (3, 1, "3")), ((2, 4), (1, 2, "1/2")), ((6, 3), (2, 1, "2")), ((0, 5), (0, 1, "0")),
            ((12, 18), (2, 3, "2/3")), ((1, 1), (1, 1, "1")), ((35, 6), (35, 6, "35/6")), ((-9, 12), (-3, 4, "-3/4")),
        ]
        for args, told in cases:
            with self.subTest(args=args):
                self.assertEqual(parts(Ratio(*args)), told)

    def test_signs_in_under(self):
        cases = [((1, -2), (-1, 2, "-1/2")), ((-1, -2), (1, 2, "1/2")), ((0, -7), (0, 1, "0")), ((4, -2), (-2, 1, "-2")),
                 ((-6, -4), (3, 2, "3/2")), ((3, -1), (-3, 1, "-3"))]
        for args, told in cases:
            with self.subTest(args=args):
                self.assertEqual(parts(Ratio(*args)), told)

    def test_under_left_out(self):
        for number, text in ((3, "3"), (0, "0"), (-4, "-4")):
            self.assertEqual(parts(Ratio(number)), (number, 1, text))

    def test_all_small_ones(self):
        for number in range(-30, 31):
            for under in [under for under in range(-30, 31) if under]:
                told = Fraction(number, under)
                ratio = Ratio(number, under)
                self.assertEqual(parts(ratio), (told.numerator, told.denominator, str(told)))

    def test_names_of_the_arguments(self):
        self.assertEqual(parts(Ratio(number=2, under=4)), (1, 2, "1/2"))
        self.assertEqual(parts(Ratio(under=4, number=2)), (1, 2, "1/2"))
        self.assertEqual(parts(Ratio(number=2)), (2, 1, "2"))
        self.assertEqual(parts(Ratio.of(text="1/2")), (1, 2, "1/2"))
        self.assertEqual(parts(Ratio(3).divided(other=2)), (3, 2, "3/2"))

    def test_kinds_of_the_properties(self):
        ratio = Ratio(-2, 4)
        self.assertEqual([type(part) for part in parts(ratio)], [int, int, str])

    def test_many_figures(self):
        ratio = Ratio(HUGE * 12, OTHER * -18)
        self.assertEqual(parts(ratio), (-2 * HUGE, 3 * OTHER, f"-{2 * HUGE}/{3 * OTHER}"))
        self.assertEqual(parts(Ratio(HUGE * OTHER, HUGE)), (OTHER, 1, str(OTHER)))

    def test_more_figures_than_str_takes(self):
        ratio = Ratio(10 ** 6000, 3)
        self.assertEqual(ratio.text, "1" + "0" * 6000 + "/3")
        self.assertEqual(repr(ratio), "Ratio(1" + "0" * 6000 + ", 3)")
        self.assertEqual(Ratio.of(ratio.text), ratio)

    def test_zero_below(self):
        self.refused(BadRatio, (1, 0), Ratio, 1, 0)
        self.refused(BadRatio, (0, 0), Ratio, 0, 0)
        self.refused(BadRatio, (-LONG, 0), Ratio, number=-LONG, under=0)

    def test_no_integer_above(self):
        for value in all_values():
            if type(value) is not int:
                with self.subTest(value=value):
                    told = self.refused(BadRatio, (value, 1), Ratio, value)
                    self.assertIs(told[0], value)
                    self.assertIs(type(told[1]), int)
                    told = self.refused(BadRatio, (value, 5), Ratio, value, 5)
                    self.assertIs(told[0], value)

    def test_no_integer_below(self):
        for value in all_values():
            if type(value) is not int:
                with self.subTest(value=value):
                    told = self.refused(BadRatio, (5, value), Ratio, 5, value)
                    self.assertIs(told[1], value)

    def test_both_wrong(self):
        for number, under in ((True, False), ("1", 0), (None, None), ([1], "2"), (Ratio(1), Ratio(2))):
            told = self.refused(BadRatio, (number, under), Ratio, number, under)
            self.assertIs(type(told), tuple)
            self.assertIs(told[0], number)
            self.assertIs(told[1], under)

    def test_told_values_are_not_reduced(self):
        self.refused(BadRatio, (4, False), Ratio, 4, False)
        self.refused(BadRatio, (True, -6), Ratio, True, -6)


class Texts(Refusals):
    def test_texts(self):
        cases = [("3", (3, 1)), ("-1/2", (-1, 2)), ("0", (0, 1)), ("10", (10, 1)), ("-3", (-3, 1)), ("1/10", (1, 10)),
                 ("22/7", (22, 7)), ("100/3", (100, 3))]
        for text, told in cases:
            with self.subTest(text=text):
                ratio = Ratio.of(text)
                self.assertIs(type(ratio), Ratio)
                self.assertEqual(parts(ratio), told + (text,))

    def test_of_each_text_its_ratio(self):
        for ratio in grid() + [Ratio(HUGE, OTHER), Ratio(-OTHER, HUGE), Ratio(LONG), Ratio(1, LONG)]:
            self.assertEqual(Ratio.of(ratio.text), ratio)

    def test_off_an_object(self):
        self.assertEqual(Ratio(1).of("2/3"), Ratio(2, 3))

    def test_other_strings(self):
        texts = [
            "2/4", "3/1", "+3", "-0", "03", "", "1/0", "1/-2", " 3", "3 ", "1 /2", "1/ 2", "1 / 2", "- 1", " ", "3\n",
            "1/2\n", "\n3", "-", "/", "/2", "1/", "-/2", "--3", "-+3", "0/1", "0/5", "-0/5", "0/0", "1/02", "01/2", "-03",
            "1/1", "-1/1", "4/2", "-2/4", "1/2/3", "1//2", "1.5", "1e3", "1_0", "0x1", "a", "a/b", "1/b", "a/2", "--1/2",
            "1/+2", "00", "-1/-2", "-1/0", "Ratio(3)", "3,", "(3)", "1-", "1/2-", "3-1",
            str(2 * HUGE) + "/4", "0" + str(HUGE),
        ]
        for text in texts:
            with self.subTest(text=text):
                self.assertIs(self.refused(BadText, text, Ratio.of, text), text)

    def test_figures_beyond_ascii(self):
        for text in ("\u0663", "\u00b2", "1/\u0663", "\uff11"):
            self.refused(BadText, text, Ratio.of, text)

    def test_what_is_no_string(self):
        for value in no_strings():
            with self.subTest(value=value):
                self.assertIs(self.refused(BadText, value, Ratio.of, value), value)

    def test_repr(self):
        cases = [(Ratio(3), "Ratio(3)"), (Ratio(-1, 2), "Ratio(-1, 2)"), (Ratio(0), "Ratio(0)"), (Ratio(2, 4), "Ratio(1, 2)"),
                 (Ratio(6, -3), "Ratio(-2)"), (Ratio(HUGE, OTHER), f"Ratio({HUGE}, {OTHER})")]
        for ratio, told in cases:
            self.assertEqual(repr(ratio), told)
        self.assertEqual(repr([Ratio(1, 3)]), "[Ratio(1, 3)]")


class Reckoning(unittest.TestCase):
    def assert_ratio(self, found, told):
        self.assertIs(type(found), Ratio)
        self.assertEqual((found.number, found.under), (told.numerator, told.denominator))
        self.assertEqual(found.text, str(told))

    def test_two_ratios(self):
        for one in grid():
            for other in grid():
                left, right = as_fraction(one), as_fraction(other)
                self.assert_ratio(one + other, left + right)
                self.assert_ratio(one - other, left - right)
                self.assert_ratio(one * other, left * right)

    def test_integers_on_either_side(self):
        for one in grid():
            for other in (-5, -1, 0, 1, 2, 6, LONG):
                left, right = as_fraction(one), Fraction(other)
                self.assert_ratio(one + other, left + right)
                self.assert_ratio(other + one, right + left)
                self.assert_ratio(one - other, left - right)
                self.assert_ratio(other - one, right - left)
                self.assert_ratio(one * other, left * right)
                self.assert_ratio(other * one, right * left)

    def test_minus(self):
        for one in grid():
            self.assert_ratio(-one, -as_fraction(one))

    def test_many_figures(self):
        one, other = Ratio(HUGE, OTHER), Ratio(-OTHER, HUGE + 2)
        left, right = as_fraction(one), as_fraction(other)
        self.assert_ratio(one + other, left + right)
        self.assert_ratio(one - other, left - right)
        self.assert_ratio(one * other, left * right)
        self.assert_ratio(one.divided(other), left / right)
        self.assert_ratio(-one, -left)
        self.assert_ratio(HUGE - one, HUGE - left)

    def test_operands_stay_as_they_were(self):
        one, other = Ratio(1, 2), Ratio(-2, 3)
        for _ in (one + other, one - other, one * other, -one, one.divided(other), one < other, one == other, 1 - one):
            self.assertEqual((parts(one), parts(other)), ((1, 2, "1/2"), (-2, 3, "-2/3")))

    def test_new_ratios(self):
        one = Ratio(1, 2)
        for found in (one + 0, one - 0, one * 1, -Ratio(0), one.divided(1), 0 + one, 1 * one):
            self.assertIsNot(found, one)

    def test_equal_calls(self):
        self.assertEqual(Ratio(1, 3) + 2, Ratio(1, 3) + 2)
        self.assertEqual(Ratio.of("5/7").text, Ratio.of("5/7").text)

    def test_into_a_name(self):
        total = first = Ratio(1, 2)
        total += 1
        total *= Ratio(2, 3)
        total -= 2
        self.assertEqual((total, first), (Ratio(-1), Ratio(1, 2)))

    def test_other_operands(self):
        others = no_numbers() + [Strange(), 1.5, object]
        for one in (Ratio(1, 2), Ratio(0), Ratio(3)):
            for other in others:
                with self.subTest(one=one, other=other):
                    for reckon in (
                        lambda a, b: a + b, lambda a, b: a - b, lambda a, b: a * b,
                        lambda a, b: a < b, lambda a, b: a <= b, lambda a, b: a > b, lambda a, b: a >= b,
                    ):
                        with self.assertRaises(TypeError):
                            reckon(one, other)
                        with self.assertRaises(TypeError):
                            reckon(other, one)


class Divided(Refusals):
    def test_numbers(self):
        for one in grid():
            for other in grid() + [-4, -1, 1, 2, 9, LONG]:
                if as_fraction(other):
                    found = one.divided(other)
                    told = as_fraction(one) / as_fraction(other)
                    self.assertIs(type(found), Ratio)
                    self.assertEqual((found.number, found.under), (told.numerator, told.denominator))
                    self.assertEqual(found * other, one)

    def test_by_nothing(self):
        for one in (Ratio(1, 2), Ratio(0), Ratio(-3)):
            zero = Ratio(0)
            self.assertIs(self.refused(BadRatio, zero, one.divided, zero), zero)
            told = self.refused(BadRatio, 0, one.divided, 0)
            self.assertIs(type(told), int)

    def test_by_what_is_no_number(self):
        for value in no_numbers():
            for one in (Ratio(1, 2), Ratio(0)):
                with self.subTest(value=value):
                    self.assertIs(self.refused(BadRatio, value, one.divided, value), value)

    def test_bools_are_refused_as_they_are(self):
        self.assertIs(self.refused(BadRatio, True, Ratio(1).divided, True), True)
        self.assertIs(self.refused(BadRatio, False, Ratio(1).divided, False), False)


class Comparing(unittest.TestCase):
    def assert_order(self, one, other):
        left, right = as_fraction(one), as_fraction(other)
        self.assertIs(one < other, left < right)
        self.assertIs(one <= other, left <= right)
        self.assertIs(one > other, left > right)
        self.assertIs(one >= other, left >= right)

    def test_two_ratios(self):
        for one in grid():
            for other in grid():
                self.assert_order(one, other)

    def test_integers_on_either_side(self):
        for one in grid():
            for other in (-6, -1, 0, 1, 3, LONG, -LONG):
                self.assert_order(one, other)
                self.assert_order(other, one)

    def test_many_figures(self):
        one, other = Ratio(HUGE, OTHER), Ratio(HUGE + 1, OTHER)
        self.assert_order(one, other)
        self.assert_order(other, one)
        self.assert_order(one, one)
        self.assert_order(Ratio(OTHER, 2), OTHER // 2)

    def test_equal_ones(self):
        for one in grid():
            for other in grid():
                self.assertIs(one == other, as_fraction(one) == as_fraction(other))
                self.assertIs(one != other, as_fraction(one) != as_fraction(other))
        self.assertEqual(Ratio(2, 4), Ratio(-1, -2))
        self.assertNotEqual(Ratio(1, 2), Ratio(1, 3))
        self.assertNotEqual(Ratio(1, 2), Ratio(3, 2))
        self.assertEqual(Ratio(HUGE * 2, OTHER * 2), Ratio(HUGE, OTHER))

    def test_nothing_else_is_equal(self):
        others = [value for value in all_values() if type(value) is not Ratio] + [Strange(), Fraction(1), 1.0]
        for one in (Ratio(1), Ratio(0), Ratio(-1), Ratio(1, 2), Ratio(LONG)):
            for other in others:
                with self.subTest(one=one, other=other):
                    self.assertIs(one == other, False)
                    self.assertIs(other == one, False)
                    self.assertIs(one != other, True)
                    self.assertIs(other != one, True)

    def test_what_looks_alike_is_not_equal(self):
        for one, other in ((Ratio(1), 1), (Ratio(1), True), (Ratio(0), False), (Ratio(3), "3"), (Ratio(1, 2), (1, 2)),
                           (Ratio(1), Script("a")), (Ratio(0), None)):
            self.assertFalse(one == other)
            self.assertTrue(one != other)


if __name__ == "__main__":
    unittest.main()
