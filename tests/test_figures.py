import unittest

from loosemirrors.figures import figures_of, integer_of, is_figures

SIZES = (1, 2, 63, 64, 65, 127, 128, 129, 192, 900, 5000)


class Figures(unittest.TestCase):
    def test_short_integers(self):
        for number in list(range(-1200, 1200)):
            self.assertEqual(figures_of(number), str(number))
            self.assertEqual(integer_of(str(number)), number)

    def test_zeros_within(self):
        for size in SIZES:
            with self.subTest(size=size):
                number = 10 ** size + 7
                text = "1" + "0" * (size - 1) + "7"
                self.assertEqual(figures_of(number), text)
                self.assertEqual(figures_of(-number), "-" + text)
                self.assertEqual(integer_of(text), number)
                self.assertEqual(integer_of("-" + text), -number)

    def test_around_whole_blocks(self):
        for size in SIZES:
            with self.subTest(size=size):
                self.assertEqual(figures_of(10 ** size), "1" + "0" * size)
                self.assertEqual(figures_of(10 ** size - 1), "9" * size)
                self.assertEqual(integer_of("1" + "0" * size), 10 ** size)
                self.assertEqual(integer_of("9" * size), 10 ** size - 1)

    def test_unlike_figures(self):
        for many in (1, 7, 20, 90):
            with self.subTest(many=many):
                text = "1234567890" * many
                number = 1234567890 * ((10 ** (10 * many) - 1) // (10 ** 10 - 1))
                self.assertEqual(figures_of(number), text)
                self.assertEqual(integer_of(text), number)

    def test_there_and_back_beyond_what_str_takes(self):
        number = 3 ** 20000
        text = figures_of(number)
        self.assertGreater(len(text), 9000)
        self.assertEqual(integer_of(text), number)
        self.assertEqual(integer_of(figures_of(-number)), -number)

    def test_leading_zeros_are_read(self):
        self.assertEqual([integer_of("007"), integer_of("-0"), integer_of("0" * 200 + "5")], [7, 0, 5])


class IsFigures(unittest.TestCase):
    def test_figures(self):
        for text in ("0", "7", "10", "007", "0123456789"):
            self.assertIs(is_figures(text), True)

    def test_others(self):
        for text in ("", "-1", "+1", "1.0", " 1", "1 ", "1\n", "a", "1a", "1_0", "\u00b2", "\u0663"):
            with self.subTest(text=text):
                self.assertIs(is_figures(text), False)


if __name__ == "__main__":
    unittest.main()
