"""What several files of tests ask in the same way."""

import unittest


class Raising(unittest.TestCase):
    def raised(self, error, function, *arguments):
        """The error that a function raises, of just that class."""
        with self.assertRaises(error) as caught:
            function(*arguments)
        self.assertIs(caught.exception.__class__, error)
        return caught.exception
