"""What the tests of several promises check in the same way."""

import unittest


class ShareTest(unittest.TestCase):
    def assert_raises_with(self, error, attribute, value, call, *args, **more):
        """Assert that the call raises this very error with this very value."""
        with self.assertRaises(error) as caught:
            call(*args, **more)
        self.assertIs(type(caught.exception), error)
        held = getattr(caught.exception, attribute)
        self.assertIs(type(held), type(value))
        self.assertEqual(held, value)
        return held

    def assert_raises_bare(self, error, call, *args, **more):
        """Assert that the call raises this very error, which has no argument."""
        with self.assertRaises(error) as caught:
            call(*args, **more)
        self.assertIs(type(caught.exception), error)
