"""Counters that never fall, each in two cells."""

from twoimages.checks import check_handed

COUNTER_CELLS = 2


def count(memory, place):
    """Tell the greatest number of the counter's cells that aren't broken, None if both are."""
    whole = [worth for worth in memory.row(place, COUNTER_CELLS) if worth is not None]
    return max(whole, default=None)


def raise_to(memory, place, number):
    """Raise a counter that tells none or a lesser number, and tell whether it was raised."""
    check_handed(memory, place, COUNTER_CELLS, [number])
    first, second = [rank(worth) for worth in memory.row(place, COUNTER_CELLS)]
    if number <= max(first, second):
        return False
    # The cell with the greater number stays, so a cut write can't make the counter fall.
    lesser = place if first <= second else place + 1
    memory.write(lesser, number)
    return True


def rank(worth):
    """Tell a cell's number, one below all numbers if it is broken."""
    return -1 if worth is None else worth
