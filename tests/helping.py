"""What several test files need."""

import unittest

from twoimages.cells import Memory
from twoimages.errors import ImageError

FAR = 10 ** 9


def filled(*row):
    """A memory whose cells hold this row, without a write."""
    memory = Memory(len(row))
    for place, worth in enumerate(row):
        memory.spoil(place, worth)
    return memory


class Refusals(unittest.TestCase):
    def refused(self, kind, deed, *told):
        """The deed raises this very error, not one above or below it."""
        with self.assertRaises(kind) as caught:
            deed(*told)
        self.assertIs(type(caught.exception), kind)
        self.assertIsInstance(caught.exception, ImageError)
        self.assertIsInstance(caught.exception, ValueError)
