"""What several test files need."""

import unittest

from twoimages.cells import Memory
from twoimages.errors import ImageError, Stopped

FAR = 10 ** 9
HOW = ("old", "broken", "new")


def filled(*row):
    """A memory whose cells hold this row, without a write."""
    memory = Memory(len(row))
    for place, worth in enumerate(row):
        memory.spoil(place, worth)
    return memory


def torn_cell(torn, elder, newer):
    """What a cell holds behind a write in which power went."""
    return {"old": elder, "broken": None, "new": newer}[torn]


def without_power(memory):
    """The same memory, its power away, its cells as they were."""
    memory.cut(0, "old")
    try:
        memory.write(0, 1)
    except Stopped:
        return memory
    raise AssertionError("power did not go")


def stopped(memory, many, torn, deed, *told):
    """Do a deed, power to go in the write behind so many more; whether it went. Then power is there again."""
    memory.cut(many, torn)
    try:
        deed(memory, *told)
    except Stopped:
        return True
    finally:
        memory.up()
    return False


class Refusals(unittest.TestCase):
    def refused(self, kind, deed, *told):
        """The deed raises this very error, not one above or below it."""
        with self.assertRaises(kind) as caught:
            deed(*told)
        self.assertIs(type(caught.exception), kind)
        self.assertIsInstance(caught.exception, ImageError)
        self.assertIsInstance(caught.exception, ValueError)
        return caught.exception
