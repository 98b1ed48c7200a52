"""A test case that looks at the fields of exceptions."""

import unittest


class RaisingCase(unittest.TestCase):
    def assert_raises(self, wanted, field, value, call, *positional, **named):
        """The call raises just this class, with an equal value in the field."""
        with self.assertRaises(wanted) as caught:
            call(*positional, **named)
        self.assertEqual(caught.exception.__class__, wanted)
        kept = getattr(caught.exception, field)
        self.assertEqual(kept, value)
        self.assertEqual(kept.__class__, value.__class__)
        return kept

    def assert_keeps(self, wanted, field, value, call, *positional, **named):
        """The call raises just this class, with the very object in the field."""
        kept = self.assert_raises(wanted, field, value, call, *positional, **named)
        self.assertIs(kept, value)
