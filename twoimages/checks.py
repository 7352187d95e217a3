"""What several files ask of what they are handed."""

from twoimages.cells import GREATEST_WORTH, check_worth
from twoimages.errors import BadPlace


def is_number(thing, least, most):
    """Tell whether this is a number between these bounds."""
    # True and False would pass for 1 and 0, but they are no numbers here.
    return isinstance(thing, int) and not isinstance(thing, bool) and least <= thing <= most


def is_row(thing, least, most):
    """Tell whether this is a row of so many numbers that cells can hold."""
    if not isinstance(thing, (tuple, list)) or not least <= len(thing) <= most:
        return False
    return all([is_number(worth, 0, GREATEST_WORTH) for worth in thing])


def check_handed(memory, place, many, row):
    """Refuse so many cells from a place on if they aren't there, then a row's numbers that no cell holds."""
    # Reading the cells would tell that power is away ahead of a wrong number; write and put don't, either.
    if not 0 <= place <= len(memory.cells()) - many:
        raise BadPlace(f"there are not {many} cells here")
    for worth in row:
        check_worth(worth)
