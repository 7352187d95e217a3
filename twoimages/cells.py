"""Cells that stay when power goes."""

from twoimages.errors import BadCut, BadPlace, BadSize, BadWorth, Stopped

MOST_CELLS = 400
GREATEST_WORTH = 9972
LATEST_CUT = 100000
TORN = ("old", "broken", "new")


def check_worth(worth):
    """Refuse what no cell can hold as a number."""
    if not 0 <= worth <= GREATEST_WORTH:
        raise BadWorth(f"a cell holds a number from 0 to {GREATEST_WORTH}")


class Memory:
    """Numbered cells; each holds a number, or None where it is broken."""

    def __init__(self, size):
        if not 1 <= size <= MOST_CELLS:
            raise BadSize(f"a memory has 1 to {MOST_CELLS} cells")
        self._cells = [0] * size
        self._whole_writes = 0
        self._has_power = True
        # None means that no cut is due; 0 would cut the next write.
        self._ahead = None
        self._torn = "old"

    def read(self, place):
        """Tell what a cell holds."""
        self._check_place(place)
        self._check_power()
        return self._cells[place]

    def row(self, place, many):
        """Tell what so many cells hold, from this place on."""
        for at in range(place, place + many):
            self._check_place(at)
        self._check_power()
        return [self._cells[at] for at in range(place, place + many)]

    def write(self, place, worth):
        """Write a number in a cell."""
        self._check_place(place)
        check_worth(worth)
        self._check_power()
        if self._ahead == 0:
            self._lose_power(place, worth)
        if self._ahead is not None:
            self._ahead -= 1
        self._cells[place] = worth
        self._whole_writes += 1

    def put(self, place, row):
        """Write those numbers of a row that aren't there already, and tell how many."""
        for at, worth in enumerate(row, start=place):
            self._check_place(at)
            check_worth(worth)
        self._check_power()
        many = 0
        for at, worth in enumerate(row, start=place):
            if self._cells[at] != worth:
                self.write(at, worth)
                many += 1
        return many

    def spoil(self, place, worth):
        """Make a cell hold this number, or broken (None), without a write."""
        self._check_place(place)
        if worth is not None:
            check_worth(worth)
        self._cells[place] = worth

    def cut(self, many, torn):
        """Let power go in the write behind so many more, its cell left as torn tells."""
        if not 0 <= many <= LATEST_CUT or torn not in TORN:
            raise BadCut(f"power goes behind 0 to {LATEST_CUT} writes, the cell old, broken or new")
        self._ahead = many
        self._torn = torn

    def up(self):
        """Tell that power is there again, or call off the cut that is due."""
        self._has_power = True
        self._ahead = None

    def cells(self):
        """Tell what all cells hold."""
        return list(self._cells)

    def writes(self):
        """Tell how many whole writes there were."""
        return self._whole_writes

    def _check_place(self, place):
        if not 0 <= place < len(self._cells):
            raise BadPlace(f"the cells have the numbers from 0 to {len(self._cells) - 1}")

    def _check_power(self):
        if not self._has_power:
            raise Stopped("power is away")

    def _lose_power(self, place, worth):
        self._has_power = False
        if self._torn == "broken":
            self._cells[place] = None
        elif self._torn == "new":
            self._cells[place] = worth
        raise Stopped("power went in this write")
