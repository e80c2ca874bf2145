"""A test that something is refused with an error and its value."""

import unittest

from loosemirrors.errors import MirrorError


class Refusals(unittest.TestCase):
    def refused(self, error, value, deed, *args, **more):
        """The value that the error keeps, for what more is asked of it."""
        with self.assertRaises(MirrorError) as raised:
            deed(*args, **more)
        self.assertIs(type(raised.exception), error)
        self.assertEqual(raised.exception.value, value)
        self.assertIs(type(raised.exception.value), type(value))
        return raised.exception.value
