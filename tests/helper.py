"""What several tests need."""

import unittest


class Case(unittest.TestCase):
    """A test case that also checks what errors keep."""

    def refused(self, error, kept, call, *told, **named):
        """The call raises just this class of error, with these attributes."""
        with self.assertRaises(error) as caught:
            call(*told, **named)
        self.assertIs(caught.exception.__class__, error)
        self.assertEqual(vars(caught.exception), kept)

    def same(self, value, wanted):
        """Equal, and of the same kinds at each depth: no list for a tuple, no True for 1."""
        self.assertEqual(value, wanted)
        self.assertEqual(repr(value), repr(wanted))
