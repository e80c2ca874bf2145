import itertools
import unittest

from loosemirrors.errors import BadNumber, BadScript, Long
from loosemirrors.ratios import Ratio
from loosemirrors.scripts import Script
from tests.refusals import Refusals
from tests.samples import LONG, Strange, all_values, no_strings

MOST = " ".join(["a", "b", "c", "d"] * 6)


def struck(text):
    """The same by another way: the first two such neighbours are struck out, until there are none."""
    steps = text.split()
    found = True
    while found:
        found = False
        for at in range(len(steps) - 1):
            if steps[at] == steps[at + 1]:
                steps = steps[:at] + steps[at + 2:]
                found = True
                break
    return " ".join(steps)


class Making(Refusals):
    def test_steps(self):
        cases = [("", ()), ("a", ("a",)), ("a b", ("a", "b")), ("a a a", ("a", "a", "a")), ("mirror peg", ("mirror", "peg")),
                 ("abcdefgh z", ("abcdefgh", "z")), (MOST, ("a", "b", "c", "d") * 6)]
        for text, steps in cases:
            with self.subTest(text=text):
                script = Script(text)
                self.assertEqual(script.text, text)
                self.assertEqual(script.steps, steps)
                self.assertIs(type(script.steps), tuple)
                self.assertEqual(len(script), len(steps))

    def test_names_of_the_arguments(self):
        self.assertEqual(Script(text="a b").steps, ("a", "b"))
        self.assertEqual(Script("a b").times(many=2).text, "a b a b")

    def test_as_many_names_as_can_be(self):
        self.assertEqual(len(Script(" ".join(["a"] * 24))), 24)
        self.assertEqual(len(Script(" ".join(["abcdefgh"] * 24))), 24)
        for many in (25, 26, 100, 1000):
            text = " ".join(["a"] * many)
            self.refused(BadScript, text, Script, text)

    def test_other_strings(self):
        texts = [
            "abcdefghi", "a abcdefghi", "A", "aB", "a B", "a1", "1", "a 1", "a  b", "  ", " ", " a", "a ", " a b", "a b ",
            "a\n", "\na", "a\nb", "\n", "a\tb", "a,b", "a-b", "a_b", "a.b", "a b!", "a; b", "'a'", MOST + " ", MOST + " a",
            "a b\n", "a \n", "~a", "a*b",
        ]
        for text in texts:
            with self.subTest(text=text):
                self.assertIs(self.refused(BadScript, text, Script, text), text)

    def test_letters_beyond_ascii(self):
        for text in ("\u00e4", "a \u03b1", "a\u00a0b"):
            self.refused(BadScript, text, Script, text)

    def test_what_is_no_string(self):
        for value in no_strings():
            with self.subTest(value=value):
                self.assertIs(self.refused(BadScript, value, Script, value), value)

    def test_repr(self):
        for text in ("", "a", "a b", MOST):
            self.assertEqual(repr(Script(text)), f"Script('{text}')")
        self.assertEqual(repr((Script("a b"),)), "(Script('a b'),)")


class Plain(unittest.TestCase):
    def test_neighbours(self):
        cases = [("", ""), ("a", "a"), ("a b", "a b"), ("a a", ""), ("a a a", "a"), ("a b a", "a b a"), ("a a b b", ""),
                 ("a a a a a", "a"), ("a b c", "a b c"), ("ab a b", "ab a b")]
        for text, told in cases:
            with self.subTest(text=text):
                self.assertEqual(Script(text).plain.text, told)

    def test_new_neighbours(self):
        cases = [("a b b a c", "c"), ("a b b a", ""), ("c a b b a c", ""), ("a b c c b a d", "d"), ("a b b c c b", "a b"),
                 ("a b c c a", "a b a"), ("d a a d d", "d"), ("a b c d d c b a a", "a")]
        for text, told in cases:
            with self.subTest(text=text):
                self.assertEqual(Script(text).plain.text, told)

    def test_longest(self):
        half = MOST.split()[:12]
        self.assertEqual(Script(" ".join(half + half[::-1])).plain, Script(""))
        self.assertEqual(Script(MOST).plain, Script(MOST))
        self.assertEqual(Script(" ".join(["a"] * 24)).plain, Script(""))

    def test_all_short_rows(self):
        for many in range(7):
            for steps in itertools.product("abc", repeat=many):
                text = " ".join(steps)
                self.assertEqual(Script(text).plain.text, struck(text))

    def test_it_is_a_script_and_its_own_plain_one(self):
        for text in ("", "a b", "a b b a c"):
            plain = Script(text).plain
            self.assertIs(type(plain), Script)
            self.assertEqual(plain.plain, plain)
            self.assertEqual(plain.plain.text, plain.text)
            self.assertEqual(plain.steps, tuple(plain.text.split()))

    def test_the_script_itself_stays(self):
        script = Script("a b b a c")
        self.assertEqual((script.plain.text, script.text, len(script)), ("c", "a b b a c", 5))


class Together(Refusals):
    def test_one_and_other(self):
        cases = [("a b", "c", "a b c"), ("", "", ""), ("a", "", "a"), ("", "a", "a"), ("a", "a", "a a"), ("b c", "c a", "b c c a")]
        for one, other, told in cases:
            with self.subTest(one=one, other=other):
                found = Script(one) * Script(other)
                self.assertIs(type(found), Script)
                self.assertEqual(found.text, told)
                self.assertEqual(found.steps, tuple(told.split()))

    def test_to_as_many_steps_as_can_be(self):
        steps = MOST.split()
        for at in range(25):
            found = Script(" ".join(steps[:at])) * Script(" ".join(steps[at:]))
            self.assertEqual(found.text, MOST)

    def test_too_many(self):
        steps = MOST.split() + ["e"]
        for at in range(1, 25):
            one, other = Script(" ".join(steps[:at])), Script(" ".join(steps[at:]))
            self.refused(Long, 24, lambda one=one, other=other: one * other)
            self.assertEqual((one.text, other.text), (" ".join(steps[:at]), " ".join(steps[at:])))
        self.refused(Long, 24, lambda: Script(MOST) * Script(MOST))

    def test_what_would_be_struck_out_counts(self):
        row = Script(" ".join(["a"] * 24))
        self.refused(Long, 24, lambda: row * Script("a"))

    def test_operands_stay_as_they_were(self):
        one, other = Script("a b b"), Script("c")
        for _ in (one * other, ~one, one.times(3), one.plain, one == other):
            self.assertEqual((one.text, one.steps, len(one)), ("a b b", ("a", "b", "b"), 3))
            self.assertEqual((other.text, other.steps, len(other)), ("c", ("c",), 1))

    def test_other_operands(self):
        others = [value for value in all_values() if type(value) is not Script] + [Strange(), 1.5]
        for one in (Script(""), Script("a b")):
            for other in others:
                with self.subTest(one=one, other=other):
                    with self.assertRaises(TypeError):
                        one * other
                    with self.assertRaises(TypeError):
                        other * one

    def test_no_other_operators(self):
        one = Script("a")
        for reckon in (lambda: one + one, lambda: one - one, lambda: -one, lambda: one < one, lambda: one + "a"):
            with self.assertRaises(TypeError):
                reckon()

    def test_contrary(self):
        for text, told in (("", ""), ("a", "a"), ("a b", "b a"), ("a b c", "c b a"), ("a a b", "b a a"), ("ab c", "c ab")):
            found = ~Script(text)
            self.assertIs(type(found), Script)
            self.assertEqual((found.text, found.steps), (told, tuple(told.split())))
        self.assertEqual(~Script(MOST), Script(" ".join(MOST.split()[::-1])))

    def test_there_and_back(self):
        for text in ("", "a", "a b c", "a b b a c", "b b b"):
            one = Script(text)
            self.assertEqual(~~one, one)
            self.assertEqual((one * ~one).plain, Script(""))
            self.assertEqual(~(one * Script("d e")), Script("e d") * ~one)


class Times(Refusals):
    def test_so_many_times(self):
        cases = [("a b", 2, "a b a b"), ("a", 3, "a a a"), ("a b", 1, "a b"), ("a b", 0, ""), ("", 0, ""), ("", 24, ""),
                 ("a", 24, " ".join(["a"] * 24)), ("a b c", 8, " ".join(["a b c"] * 8)), (MOST, 1, MOST), (MOST, 0, "")]
        for text, many, told in cases:
            with self.subTest(text=text, many=many):
                found = Script(text).times(many)
                self.assertIs(type(found), Script)
                self.assertEqual((found.text, found.steps), (told, tuple(told.split())))

    def test_too_many_steps(self):
        for text, many in (("a b", 13), ("a b", 24), ("a b c", 9), (MOST, 2), (MOST, 24), ("a b c d e", 5)):
            with self.subTest(text=text, many=many):
                self.refused(Long, 24, Script(text).times, many)

    def test_other_integers(self):
        for text in ("", "a", "a b", MOST):
            for many in (-1, 25, 26, -24, LONG, -LONG):
                with self.subTest(text=text, many=many):
                    self.refused(BadNumber, many, Script(text).times, many)

    def test_what_is_no_integer(self):
        for text in ("", "a", MOST):
            for value in all_values() + [Ratio(2)]:
                if type(value) is not int:
                    with self.subTest(text=text, value=value):
                        self.assertIs(self.refused(BadNumber, value, Script(text).times, value), value)

    def test_bools(self):
        self.assertIs(self.refused(BadNumber, True, Script("a").times, True), True)
        self.assertIs(self.refused(BadNumber, False, Script("a").times, False), False)


class Comparing(unittest.TestCase):
    def test_equal_texts(self):
        for text in ("", "a", "a b", MOST):
            self.assertIs(Script(text) == Script(text), True)
            self.assertIs(Script(text) != Script(text), False)

    def test_other_texts(self):
        for one, other in (("", "a"), ("a", "b"), ("a b", "b a"), ("a b", "ab"), ("a a", ""), ("a b b", "a"), ("a", "a a")):
            self.assertIs(Script(one) == Script(other), False)
            self.assertIs(Script(one) != Script(other), True)

    def test_nothing_else_is_equal(self):
        others = [value for value in all_values() if type(value) is not Script] + [("a", "b"), Strange(), ["a", "b"], 1.0]
        for one in (Script(""), Script("a"), Script("a b")):
            for other in others:
                with self.subTest(one=one, other=other):
                    self.assertIs(one == other, False)
                    self.assertIs(other == one, False)
                    self.assertIs(one != other, True)
                    self.assertIs(other != one, True)

    def test_equal_calls(self):
        self.assertEqual(Script("a b") * Script("c"), Script("a b") * Script("c"))
        self.assertEqual(Script("a b").times(3), Script("a b").times(3))


class Document(unittest.TestCase):
    def test_example(self):
        found = [Script('a b b a c').plain.text, (Script('a b') * Script('c')).text, (~Script('a b c')).steps,
                 Script('a b').times(2).text]
        self.assertEqual(found, ['c', 'a b c', ('c', 'b', 'a'), 'a b a b'])


if __name__ == "__main__":
    unittest.main()
