import unittest

from loosemirrors import errors
from loosemirrors.errors import MirrorError
from tests.samples import all_values

NAMES = (
    "BadRatio BadText BadBook NoName BadLine Used Few BadRows BadScript BadDot Long BadNumber OtherBook BadClaim "
    "BadNames BadLooks Nothing Loose Needed NotSure BadOffers BadWishes Full NoDot NothingToUndo NothingToRedo NoTrial "
    "BadJournal BadSay"
).split()


def error_classes():
    return [MirrorError] + [getattr(errors, name) for name in NAMES]


class Family(unittest.TestCase):
    def test_the_first_error_derives_from_value_error(self):
        self.assertEqual(MirrorError.__bases__, (ValueError,))

    def test_all_others_stand_directly_below_it(self):
        for name in NAMES:
            with self.subTest(name=name):
                self.assertEqual(getattr(errors, name).__bases__, (MirrorError,))

    def test_they_are_defined_under_their_names_in_this_file(self):
        for name in NAMES + ["MirrorError"]:
            with self.subTest(name=name):
                self.assertEqual(getattr(errors, name).__name__, name)
                self.assertEqual(getattr(errors, name).__module__, "loosemirrors.errors")

    def test_no_two_names_are_one_error(self):
        self.assertEqual(len(set(error_classes())), 30)

    def test_the_interface_has_no_further_errors(self):
        found = [name for name, value in vars(errors).items() if isinstance(value, type)]
        self.assertEqual(sorted(found), sorted(NAMES + ["MirrorError"]))


class Values(unittest.TestCase):
    def test_each_error_keeps_any_very_value(self):
        for error in error_classes():
            for value in all_values():
                with self.subTest(error=error.__name__, value=value):
                    self.assertIs(error(value).value, value)

    def test_each_error_can_be_raised_and_caught_as_what_it_is(self):
        for error in error_classes():
            for caught in (error, MirrorError, ValueError):
                with self.subTest(error=error.__name__, caught=caught.__name__):
                    value = [1, None]
                    with self.assertRaises(caught) as raised:
                        raise error(value)
                    self.assertIs(type(raised.exception), error)
                    self.assertIs(raised.exception.value, value)

    def test_no_error_is_caught_as_another_one(self):
        for error in error_classes()[1:]:
            for other in error_classes()[1:]:
                self.assertEqual(issubclass(error, other), error is other)

    def test_a_kept_value_stays_as_it_is(self):
        value = {"a": [1, (2,)]}
        MirrorError(value)
        self.assertEqual(value, {"a": [1, (2,)]})

    def test_two_errors_keep_their_own_values(self):
        one, other = MirrorError(1), MirrorError("a")
        self.assertEqual((one.value, other.value), (1, "a"))


if __name__ == "__main__":
    unittest.main()
