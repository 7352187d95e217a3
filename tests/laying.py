"""What lies in a machine's memory, worked out at once and not by the program."""

from helping import filled, stopped

KEYS = (5, 9972, 1234, 77)
PLACES = (16, 35)
PAGES = (4, 10)
NO_PAGE = [0, 0, 0, 0, 0, 0]
NO_SLOT = [0] * 19


def both_sums(row):
    """Both sums of a row, worked out at once."""
    one = sum(worth + 1 for worth in row) % 9973
    two = sum((len(row) - at) * (worth + 1) for at, worth in enumerate(row)) % 9973
    return [one, two]


def page(number, *row):
    """A book's page as the document tells it."""
    return [number, *row, *both_sums([number, *row])]


def sealed(key, five):
    """The five numbers and their seal, worked out at once."""
    told = key ** 6 + sum((worth + 1) * key ** (4 - at) for at, worth in enumerate(five))
    return [*five, told % 9973]


def head(version, cells, number, keys=KEYS):
    """A picture's head behind the mark."""
    return sealed(keys[number], [version, len(cells), *both_sums(cells), number])


def laid(version, cells, number, keys=KEYS):
    """A slot with this picture in it, nothing behind the picture's end."""
    return [1, *head(version, cells, number, keys), *cells] + [0] * (12 - len(cells))


def title(piece):
    """A piece's name."""
    return (*both_sums(piece), len(piece))


def pieces(cells):
    return [tuple(cells[at:at + 3]) for at in range(0, len(cells), 3)]


def manifest(version, cells, number, keys=KEYS):
    """A picture's manifest."""
    return (*head(version, cells, number, keys), tuple(title(piece) for piece in pieces(cells)))


def store(*all_cells):
    """A store that has all pieces of pictures of these cells."""
    return [(title(piece), piece) for cells in all_cells for piece in pieces(cells)]


def memory_of(first, second, book=page(1, 0, 0, 0), versions=(0, 0), key_floor=(0, 0)):
    """A memory with these slots, and this in the book from its first page on."""
    book = [*book, *[0] * (12 - len(book))]
    return filled(*versions, *key_floor, *book, *first, *second)


def noting(which, number, *row):
    """The writes, in order, by which a record is noted in this page of a machine's book."""
    first, *rest = page(number, *row)
    place = PAGES[which]
    return [(place, 0), *[(place + at, worth) for at, worth in enumerate(rest, start=1)], (place, first)]


def traced(make, deed, *told):
    """The writes of a deed to what is made, in order: found by letting power go in each of them."""
    writes = []
    while True:
        left = []
        for torn in ("broken", "new"):
            thing = make()
            if not stopped(thing, len(writes), torn, deed, *told):
                return writes
            left.append(thing.cells())
        # The one cell that isn't alike is that of the cut write.
        [found] = [(place, new) for place, (broken, new) in enumerate(zip(*left)) if broken != new]
        writes.append(found)
