"""Point 7 of the document: books, and power that goes while they are noted in (point 3)."""

import itertools
import unittest

from helping import FAR, HOW, Refusals, filled, stopped, torn_cell, without_power
from laying import NO_PAGE, page

from twoimages.books import note, record
from twoimages.cells import Memory
from twoimages.errors import BadPlace, BadWorth, Stopped

NO_WORTHS = (-1, 9973, -9972, FAR, -FAR)
WRITES = 7


def book(first, second):
    return filled(*first, *second)


class Pages(unittest.TestCase):
    """The pages by which the tests go, worked out by hand."""

    def test_pages_worked_out_by_hand(self):
        self.assertEqual(page(1, 0, 0, 0), [1, 0, 0, 0, 5, 14])
        self.assertEqual(page(2, 1, 1, 3), [2, 1, 1, 3, 11, 26])
        self.assertEqual(page(9972, 9972, 9972, 9972), [9972, 9972, 9972, 9972, 0, 0])


class Records(Refusals):
    def test_no_page(self):
        self.assertIsNone(record(Memory(12), 0))
        self.assertIsNone(record(book([None] * 6, [None] * 6), 0))
        self.assertIsNone(record(book(page(0, 1, 2, 3), page(0, 4, 5, 6)), 0))

    def test_one_page(self):
        for other in (NO_PAGE, [None] * 6, page(0, 7, 8, 9), [9, 7, 8, 9, 1, 1]):
            with self.subTest(other):
                self.assertEqual(record(book(page(5, 1, 2, 3), other), 0), (1, 2, 3))
                self.assertEqual(record(book(other, page(5, 1, 2, 3)), 0), (1, 2, 3))

    def test_the_page_with_the_greatest_number(self):
        for low, high in ((1, 2), (1, 9972), (9971, 9972), (3, 700)):
            with self.subTest((low, high)):
                self.assertEqual(record(book(page(low, 1, 2, 3), page(high, 4, 5, 6)), 0), (4, 5, 6))
                self.assertEqual(record(book(page(high, 4, 5, 6), page(low, 1, 2, 3)), 0), (4, 5, 6))

    def test_of_two_alike_the_first(self):
        for number in (1, 77, 9972):
            self.assertEqual(record(book(page(number, 1, 2, 3), page(number, 4, 5, 6)), 0), (1, 2, 3))
            self.assertEqual(record(book(page(number, 4, 5, 6), page(number, 1, 2, 3)), 0), (4, 5, 6))

    def test_all_numbers_of_a_record(self):
        for row in ((0, 0, 0), (9972, 9972, 9972), (0, 9972, 1), (1, 0, 3)):
            told = record(book(page(3, *row), NO_PAGE), 0)
            self.assertEqual(told, row)
            self.assertIsInstance(told, tuple)

    def test_a_broken_cell_makes_it_none(self):
        for at in range(6):
            with self.subTest(at):
                torn = page(9, 4, 5, 6)
                torn[at] = None
                self.assertEqual(record(book(page(2, 1, 2, 3), torn), 0), (1, 2, 3))
                self.assertEqual(record(book(torn, page(2, 1, 2, 3)), 0), (1, 2, 3))
                self.assertIsNone(record(book(torn, NO_PAGE), 0))
                self.assertIsNone(record(book(NO_PAGE, torn), 0))

    def test_other_sums_make_it_none(self):
        for at, more in itertools.product(range(6), (1, 2, 4000, 9972)):
            with self.subTest((at, more)):
                other = page(9, 4, 5, 6)
                other[at] = (other[at] + more) % 9973
                self.assertEqual(record(book(page(2, 1, 2, 3), other), 0), (1, 2, 3))
                self.assertEqual(record(book(other, page(2, 1, 2, 3)), 0), (1, 2, 3))
                self.assertIsNone(record(book(other, NO_PAGE), 0))

    def test_sums_are_of_all_four_numbers(self):
        # The sums of the record alone, or of the page with 0 as its number, are other ones.
        for four in ((0, 4, 5, 6), (4, 5, 6)):
            one = sum(worth + 1 for worth in four)
            two = sum((len(four) - at) * (worth + 1) for at, worth in enumerate(four))
            self.assertIsNone(record(book([9, 4, 5, 6, one, two], NO_PAGE), 0))

    def test_it_writes_nothing_and_tells_the_same_again(self):
        memory = book(page(2, 1, 2, 3), [3, 4, None, 6, 20, 40])
        before = memory.cells()
        self.assertEqual([record(memory, 0), record(memory, 0)], [(1, 2, 3), (1, 2, 3)])
        self.assertEqual(memory.cells(), before)
        self.assertEqual(memory.writes(), 0)

    def test_a_book_that_begins_later(self):
        memory = filled(8, None, *page(2, 1, 2, 3), *page(3, 4, 5, 6), 8)
        self.assertEqual(record(memory, 2), (4, 5, 6))
        self.assertIsNone(record(memory, 1))
        self.assertIsNone(record(memory, 0))

    def test_cells_that_there_are_not(self):
        memory = filled(*page(1, 1, 2, 3), *page(2, 4, 5, 6), 0)
        for place in (-1, -12, -13, 2, 3, 7, 12, 400, FAR, -FAR):
            with self.subTest(place):
                self.refused(BadPlace, record, memory, place)
        self.refused(BadPlace, record, Memory(11), 0)


class Notes(Refusals):
    def test_which_page_and_which_number(self):
        old = page(5, 1, 2, 3)
        for first, second, behind in (
            (NO_PAGE, NO_PAGE, (page(1, 7, 8, 9), NO_PAGE)),
            ([None] * 6, [None] * 6, (page(1, 7, 8, 9), [None] * 6)),
            (page(0, 1, 1, 1), [3, 3, 3, 3, 3, 3], (page(1, 7, 8, 9), [3, 3, 3, 3, 3, 3])),
            (old, NO_PAGE, (old, page(6, 7, 8, 9))),
            (NO_PAGE, old, (page(6, 7, 8, 9), old)),
            (old, page(4, 4, 5, 6), (old, page(6, 7, 8, 9))),
            (page(4, 4, 5, 6), old, (page(6, 7, 8, 9), old)),
            (old, page(5, 4, 5, 6), (old, page(6, 7, 8, 9))),
            (old, [9, 4, None, 6, 1, 1], (old, page(6, 7, 8, 9))),
            (page(9971, 1, 2, 3), NO_PAGE, (page(9971, 1, 2, 3), page(9972, 7, 8, 9))),
            (NO_PAGE, page(9971, 1, 2, 3), (page(9972, 7, 8, 9), page(9971, 1, 2, 3))),
        ):
            with self.subTest((first, second)):
                memory = book(first, second)
                self.assertIsNone(note(memory, 0, (7, 8, 9)))
                self.assertEqual(memory.cells(), [*behind[0], *behind[1]])
                self.assertEqual(memory.writes(), WRITES)
                self.assertEqual(record(memory, 0), (7, 8, 9))

    def test_one_behind_the_other(self):
        memory = Memory(12)
        rows = [(at, 9972 - at, at % 3) for at in range(9)]
        for row in rows:
            note(memory, 0, row)
            self.assertEqual(record(memory, 0), row)
        self.assertEqual(memory.cells(), page(9, *rows[8]) + page(8, *rows[7]))
        self.assertEqual(memory.writes(), 9 * WRITES)

    def test_the_most_notes(self):
        memory = Memory(12)
        for at in range(9972):
            note(memory, 0, (at, 0, 1))
        self.assertEqual(memory.cells(), page(9971, 9970, 0, 1) + page(9972, 9971, 0, 1))
        self.assertEqual(record(memory, 0), (9971, 0, 1))

    def test_the_order_of_its_writes(self):
        """Each write stands alone where power goes behind so many: 0, the record, both sums, the number."""
        for first, second, start, number in (
            (page(5, 1, 2, 3), page(4, 4, 5, 6), 6, 6),
            (page(4, 4, 5, 6), page(5, 1, 2, 3), 0, 6),
            (NO_PAGE, NO_PAGE, 0, 1),
            (page(5, 1, 2, 3), [None] * 6, 6, 6),
        ):
            for many in range(WRITES):
                with self.subTest((first, second, many)):
                    memory = book(first, second)
                    memory.cut(many, "old")
                    self.refused(Stopped, note, memory, 0, (7, 8, 9))
                    cells = [*first, *second]
                    for at, worth in enumerate([0, *page(number, 7, 8, 9)[1:], number][:many]):
                        cells[start + at % 6] = worth
                    self.assertEqual(memory.cells(), cells)
                    self.assertEqual(memory.writes(), many)

    def test_numbers_that_lie_there_already_are_written_too(self):
        # The document says that these are written, and not that they are put.
        memory = book(page(5, 1, 2, 3), [0, *page(6, 7, 8, 9)[1:]])
        note(memory, 0, (7, 8, 9))
        self.assertEqual(memory.cells(), page(5, 1, 2, 3) + page(6, 7, 8, 9))
        self.assertEqual(memory.writes(), WRITES)

    def test_all_other_cells_stay(self):
        memory = filled(8, None, *NO_PAGE, *NO_PAGE, 8, None)
        note(memory, 2, (1, 1, 1))
        self.assertEqual(memory.cells(), [8, None, *page(1, 1, 1, 1), *NO_PAGE, 8, None])
        note(memory, 2, (2, 2, 2))
        self.assertEqual(memory.cells(), [8, None, *page(1, 1, 1, 1), *page(2, 2, 2, 2), 8, None])

    def test_cells_that_there_are_not(self):
        memory = filled(*page(1, 1, 2, 3), *page(2, 4, 5, 6), 0)
        before = memory.cells()
        for place in (-1, -12, -13, 2, 3, 7, 12, 400, FAR, -FAR):
            for row in ((1, 1, 1), (-1, 1, 1), (1, 9973, 1)):
                with self.subTest((place, row)):
                    self.refused(BadPlace, note, memory, place, row)
        self.refused(BadPlace, note, Memory(11), 0, (1, 1, 1))
        self.assertEqual(memory.cells(), before)
        self.assertEqual(memory.writes(), 0)

    def test_other_numbers(self):
        for first, second in ((NO_PAGE, NO_PAGE), (page(1, 1, 2, 3), page(2, 4, 5, 6))):
            memory = book(first, second)
            for at, worth in itertools.product(range(3), NO_WORTHS):
                row = [9972, 0, 5]
                row[at] = worth
                with self.subTest(row):
                    self.refused(BadWorth, note, memory, 0, row)
            self.assertEqual(memory.cells(), [*first, *second])
            self.assertEqual(memory.writes(), 0)

    def test_a_book_that_is_full(self):
        for first, second in ((page(9972, 1, 2, 3), NO_PAGE), (page(9971, 4, 5, 6), page(9972, 1, 2, 3))):
            memory = book(first, second)
            self.refused(BadWorth, note, memory, 0, (7, 8, 9))
            self.assertEqual(memory.cells(), [*first, *second])
            self.assertEqual(memory.writes(), 0)
            self.assertEqual(record(memory, 0), (1, 2, 3))


class Power(Refusals):
    def test_wherever_a_noting_is_cut(self):
        for first, second in (
            (NO_PAGE, NO_PAGE),
            (page(1, 1, 2, 3), NO_PAGE),
            (page(1, 1, 2, 3), page(2, 4, 5, 6)),
            (page(3, 1, 2, 3), page(2, 4, 5, 6)),
            ([None] * 6, page(2, 4, 5, 6)),
            ([None] * 6, [None] * 6),
            (page(2, 1, 2, 3), page(2, 4, 5, 6)),
            (page(2, 7, 8, 9), page(1, 7, 8, 9)),
        ):
            for many, torn in itertools.product(range(WRITES), HOW):
                with self.subTest((first, second, many, torn)):
                    memory = book(first, second)
                    elder = record(memory, 0)
                    memory.cut(many, torn)
                    self.refused(Stopped, note, memory, 0, (7, 8, 9))
                    self.assertEqual(memory.writes(), many)
                    memory.up()
                    whole = many == WRITES - 1 and torn == "new"
                    self.assertEqual(record(memory, 0), (7, 8, 9) if whole else elder)
                    note(memory, 0, (7, 8, 9))
                    self.assertEqual(record(memory, 0), (7, 8, 9))

    def test_the_cell_of_the_cut_write(self):
        for torn in HOW:
            memory = book(page(1, 1, 2, 3), page(2, 4, 5, 6))
            memory.cut(3, torn)
            self.refused(Stopped, note, memory, 0, (7, 8, 9))
            self.assertEqual(memory.cells(), [0, 7, 8, torn_cell(torn, 3, 9), *page(1, 1, 2, 3)[4:], *page(2, 4, 5, 6)])

    def test_several_cuts_on_end(self):
        """Each noting is cut, with another record each time, and only then one comes through."""
        places = list(itertools.product(range(WRITES), HOW))
        for cuts in itertools.product(places, repeat=2):
            memory = book(page(3, 1, 2, 3), page(2, 4, 5, 6))
            elder = (1, 2, 3)
            for at, (many, torn) in enumerate([*cuts, (5, "broken"), cuts[0]]):
                newer = (7 + at, 8, 9)
                self.assertTrue(stopped(memory, many, torn, note, 0, newer))
                told = record(memory, 0)
                self.assertIn(told, (elder, newer))
                elder = told
            note(memory, 0, (1, 1, 1))
            self.assertEqual(record(memory, 0), (1, 1, 1))

    def test_a_cut_behind_all_its_writes(self):
        memory = Memory(12)
        memory.cut(WRITES, "broken")
        note(memory, 0, (1, 2, 3))
        self.refused(Stopped, note, memory, 0, (4, 5, 6))
        self.assertEqual(memory.cells(), page(1, 1, 2, 3) + [None, 0, 0, 0, 0, 0])

    def test_while_power_is_away(self):
        memory = without_power(book(page(1, 1, 2, 3), page(2, 4, 5, 6)))
        before = memory.cells()
        self.refused(Stopped, record, memory, 0)
        self.refused(Stopped, note, memory, 0, (7, 8, 9))
        self.refused(BadPlace, record, memory, 1)
        self.refused(BadPlace, note, memory, 1, (-1, 8, 9))
        self.refused(BadWorth, note, memory, 0, (-1, 8, 9))
        self.assertEqual(memory.cells(), before)
        self.assertEqual(memory.writes(), 0)


class Lists(unittest.TestCase):
    """Point 1: nothing that is handed in is changed or kept."""

    def test_a_record_that_was_noted(self):
        memory = Memory(12)
        row = [7, 8, 9]
        note(memory, 0, row)
        self.assertEqual(row, [7, 8, 9])
        row[0] = 1
        row.append(2)
        self.assertEqual(record(memory, 0), (7, 8, 9))
        note(memory, 0, (4, 5, 6))
        self.assertEqual(row, [1, 8, 9, 2])

    def test_what_was_told_stays_as_it_was(self):
        memory = Memory(12)
        note(memory, 0, (7, 8, 9))
        told = record(memory, 0)
        note(memory, 0, (4, 5, 6))
        self.assertEqual(told, (7, 8, 9))

    def test_books_of_their_own(self):
        memory = Memory(24)
        note(memory, 0, (7, 8, 9))
        note(memory, 12, (4, 5, 6))
        self.assertEqual((record(memory, 0), record(memory, 12)), ((7, 8, 9), (4, 5, 6)))


if __name__ == "__main__":
    unittest.main()
