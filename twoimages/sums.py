"""Sums by which rows are told apart, and seals."""

RESTS_BY = 9973


def sums(row):
    """Tell both sums of a row, None if a cell is broken."""
    one = 0
    two = 0
    for worth in row:
        if worth is None:
            return None
        one = (one + worth + 1) % RESTS_BY
        two = (two + one) % RESTS_BY
    return (one, two)


def joined(parts):
    """Tell both sums of rows one behind the other, of (one, two, how many) of each."""
    one = 0
    two = 0
    for part_one, part_two, many in parts:
        # What one was ahead of this part went into two again with each cell of it.
        two = (two + one * many + part_two) % RESTS_BY
        one = (one + part_one) % RESTS_BY
    return (one, two)


def name(piece):
    """Tell a piece's name, (one, two, how many cells), None if a cell is broken."""
    both = sums(piece)
    if both is None:
        return None
    one, two = both
    return (one, two, len(piece))


def seal(key, row):
    """Tell the seal of a key and a row of numbers."""
    told = key
    for number in row:
        told = (told * key + number + 1) % RESTS_BY
    return told
