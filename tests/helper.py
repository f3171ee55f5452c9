"""What all tests of the project share."""

import unittest


class Case(unittest.TestCase):
    """A test case that looks at what an error keeps as well as at its class."""

    def refused(self, error, *args, **kept):
        """Call args[0] with the rest: it raises just this error, which keeps just this."""
        with self.assertRaises(error) as caught:
            args[0](*args[1:])
        self.assertIs(type(caught.exception), error)
        self.assertEqual(vars(caught.exception), kept)
        return caught.exception

    def ordered(self, rows, low, high):
        """Assert that all comparisons of two objects are those of two numbers."""
        self.assertIs(rows[0] == rows[1], low == high)
        self.assertIs(rows[0] != rows[1], low != high)
        self.assertIs(rows[0] < rows[1], low < high)
        self.assertIs(rows[0] <= rows[1], low <= high)
        self.assertIs(rows[0] > rows[1], low > high)
        self.assertIs(rows[0] >= rows[1], low >= high)
