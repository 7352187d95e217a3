"""Point 2 of the document, while there is power: cells, reads, writes, and what is refused."""

import unittest

from helping import FAR, Refusals, filled

from twoimages.cells import Memory
from twoimages.errors import BadPlace, BadSize, BadWorth, Stopped

NO_PLACES = (-1, 5, 6, -5, -6, 400, FAR, -FAR)
NO_WORTHS = (-1, 9973, 9974, -9972, FAR, -FAR)


class Sizes(Refusals):
    def test_cells_hold_0_at_first(self):
        for size in (1, 2, 54, 399, 400):
            with self.subTest(size):
                memory = Memory(size)
                self.assertEqual(memory.cells(), [0] * size)
                self.assertEqual(memory.writes(), 0)
                self.assertEqual(memory.read(0), 0)
                self.assertEqual(memory.read(size - 1), 0)
                self.refused(BadPlace, memory.read, size)

    def test_other_sizes(self):
        for size in (0, 401, -1, 402, -400, 1000, FAR, -FAR):
            with self.subTest(size):
                self.refused(BadSize, Memory, size)

    def test_memories_have_cells_of_their_own(self):
        one = Memory(3)
        other = Memory(3)
        one.write(1, 7)
        one.cut(0, "old")
        self.assertRaises(Stopped, one.write, 0, 1)
        self.assertEqual(other.cells(), [0, 0, 0])
        self.assertEqual(other.writes(), 0)
        other.write(2, 9)
        self.assertEqual(other.cells(), [0, 0, 9])
        self.assertEqual(one.cells(), [0, 7, 0])


class Reads(Refusals):
    def test_read_tells_what_a_cell_holds(self):
        memory = filled(4, None, 9972, 0)
        self.assertEqual([memory.read(place) for place in range(4)], [4, None, 9972, 0])

    def test_row_tells_so_many(self):
        memory = filled(4, None, 9972, 0, 6)
        self.assertEqual(memory.row(0, 5), [4, None, 9972, 0, 6])
        self.assertEqual(memory.row(1, 3), [None, 9972, 0])
        self.assertEqual(memory.row(4, 1), [6])
        self.assertEqual(memory.row(2, 0), [])
        self.assertIsInstance(memory.row(1, 3), list)

    def test_cells_tells_all(self):
        memory = filled(4, None, 9972)
        self.assertEqual(memory.cells(), [4, None, 9972])
        self.assertIsInstance(memory.cells(), list)

    def test_reading_is_no_write_and_changes_nothing(self):
        memory = filled(4, None, 9972)
        for _ in range(2):
            self.assertEqual(memory.read(0), 4)
            self.assertIsNone(memory.read(1))
            self.assertEqual(memory.row(0, 3), [4, None, 9972])
            self.assertEqual(memory.cells(), [4, None, 9972])
            self.assertEqual(memory.writes(), 0)

    def test_cells_that_there_are_not(self):
        memory = filled(1, 2, 3, 4, 5)
        for place in NO_PLACES:
            with self.subTest(place):
                self.refused(BadPlace, memory.read, place)
                self.refused(BadPlace, memory.row, place, 1)
                self.refused(BadPlace, memory.row, place, 2)

    def test_rows_that_begin_or_end_beside_the_cells(self):
        memory = filled(1, 2, 3, 4, 5)
        for place, many in ((0, 6), (3, 3), (4, 2), (-1, 2), (-3, 3), (-1, 7), (4, FAR), (0, FAR)):
            with self.subTest((place, many)):
                self.refused(BadPlace, memory.row, place, many)
        self.assertEqual(memory.cells(), [1, 2, 3, 4, 5])


class Writes(Refusals):
    def test_write_writes_a_number(self):
        memory = Memory(4)
        self.assertIsNone(memory.write(0, 9972))
        self.assertIsNone(memory.write(3, 1))
        self.assertEqual(memory.cells(), [9972, 0, 0, 1])
        memory.write(0, 0)
        self.assertEqual(memory.cells(), [0, 0, 0, 1])
        self.assertEqual(memory.writes(), 3)

    def test_the_same_number_is_a_write_too(self):
        memory = Memory(2)
        memory.write(1, 0)
        memory.write(1, 0)
        self.assertEqual(memory.writes(), 2)

    def test_a_broken_cell_can_be_written(self):
        memory = filled(1, None, 3)
        memory.write(1, 2)
        self.assertEqual(memory.cells(), [1, 2, 3])
        self.assertEqual(memory.writes(), 1)

    def test_other_cells_and_numbers(self):
        memory = filled(1, 2, 3, 4, 5)
        for place in NO_PLACES:
            self.refused(BadPlace, memory.write, place, 1)
        for worth in NO_WORTHS:
            self.refused(BadWorth, memory.write, 1, worth)
        self.assertEqual(memory.cells(), [1, 2, 3, 4, 5])
        self.assertEqual(memory.writes(), 0)

    def test_the_cell_is_refused_first(self):
        memory = Memory(5)
        for place in NO_PLACES:
            for worth in NO_WORTHS:
                self.refused(BadPlace, memory.write, place, worth)
        self.assertEqual(memory.cells(), [0] * 5)


class Puts(Refusals):
    def test_only_what_is_not_there_is_written(self):
        memory = filled(1, 2, 3, 4, 5)
        self.assertEqual(memory.put(0, [1, 7, 3, 8, 5]), 2)
        self.assertEqual(memory.cells(), [1, 7, 3, 8, 5])
        self.assertEqual(memory.writes(), 2)

    def test_all_and_none(self):
        memory = filled(1, 2, 3)
        self.assertEqual(memory.put(0, [4, 5, 6]), 3)
        self.assertEqual(memory.writes(), 3)
        self.assertEqual(memory.put(0, [4, 5, 6]), 0)
        self.assertEqual(memory.writes(), 3)
        self.assertEqual(memory.cells(), [4, 5, 6])

    def test_a_part_of_the_cells(self):
        memory = filled(1, 2, 3, 4, 5)
        self.assertEqual(memory.put(2, [9972, 0]), 2)
        self.assertEqual(memory.cells(), [1, 2, 9972, 0, 5])
        self.assertEqual(memory.put(4, [6]), 1)
        self.assertEqual(memory.cells(), [1, 2, 9972, 0, 6])

    def test_broken_cells_are_written(self):
        memory = filled(None, 0, None, 0)
        self.assertEqual(memory.put(0, [0, 0, 5, 0]), 2)
        self.assertEqual(memory.cells(), [0, 0, 5, 0])
        self.assertEqual(memory.writes(), 2)

    def test_a_tuple_and_a_row_of_nothing(self):
        memory = Memory(3)
        self.assertEqual(memory.put(1, (8, 9)), 2)
        self.assertEqual(memory.put(1, []), 0)
        self.assertEqual(memory.cells(), [0, 8, 9])
        self.assertEqual(memory.writes(), 2)

    def test_what_is_refused_cell_by_cell(self):
        rows = (
            (BadPlace, -1, [1]),
            (BadPlace, -1, [1, 1]),
            (BadPlace, -5, [1]),
            (BadPlace, 5, [1]),
            (BadPlace, 4, [1, 1]),
            (BadPlace, 0, [1, 1, 1, 1, 1, 1]),
            (BadPlace, FAR, [1]),
            (BadPlace, -FAR, [1]),
            (BadWorth, 0, [9973]),
            (BadWorth, 0, [-1]),
            (BadWorth, 0, [1, 1, 9973]),
            (BadWorth, 4, [FAR]),
            (BadPlace, -1, [-1, 9973]),
            (BadPlace, 5, [-1]),
            (BadPlace, 4, [1, -1]),
            (BadPlace, 3, [1, 1, -1, -1]),
            (BadWorth, 4, [-1, 1]),
            (BadWorth, 3, [1, 9973, 1]),
            (BadWorth, 4, [9973, 9973]),
        )
        for kind, place, row in rows:
            with self.subTest((place, row)):
                memory = filled(6, 7, 8, 9, None)
                self.refused(kind, memory.put, place, row)
                self.assertEqual(memory.cells(), [6, 7, 8, 9, None])
                self.assertEqual(memory.writes(), 0)

    def test_bad_numbers_are_refused_whatever_the_cells_hold(self):
        memory = filled(6, 7, 8)
        self.refused(BadWorth, memory.put, 0, [6, 7, -1])
        self.refused(BadPlace, memory.put, 0, [6, 7, 8, 8])


class Spoiling(Refusals):
    def test_spoil_is_no_write(self):
        memory = Memory(4)
        self.assertIsNone(memory.spoil(0, 9972))
        self.assertIsNone(memory.spoil(3, None))
        memory.spoil(1, 5)
        memory.spoil(1, 0)
        self.assertEqual(memory.cells(), [9972, 0, 0, None])
        self.assertEqual(memory.writes(), 0)

    def test_a_broken_cell_holds_a_number_again(self):
        memory = filled(None, None)
        memory.spoil(1, 3)
        self.assertEqual(memory.cells(), [None, 3])

    def test_other_cells_and_numbers(self):
        memory = filled(1, 2, 3, 4, 5)
        for place in NO_PLACES:
            for worth in (0, None) + NO_WORTHS:
                self.refused(BadPlace, memory.spoil, place, worth)
        for worth in NO_WORTHS:
            self.refused(BadWorth, memory.spoil, 1, worth)
        self.assertEqual(memory.cells(), [1, 2, 3, 4, 5])


class Counting(unittest.TestCase):
    def test_writes_of_all_sorts_together(self):
        memory = Memory(5)
        memory.write(0, 1)
        memory.put(0, [1, 2, 3])
        memory.spoil(4, 9)
        memory.write(4, 9)
        self.assertEqual(memory.writes(), 4)
        self.assertEqual(memory.writes(), 4)
        self.assertEqual(memory.cells(), [1, 2, 3, 0, 9])


class Lists(unittest.TestCase):
    """Point 1: what is handed in is not kept, what is told is the asker's own."""

    def test_a_row_that_was_put(self):
        memory = Memory(3)
        row = [1, 2, 3]
        memory.put(0, row)
        self.assertEqual(row, [1, 2, 3])
        row[0] = 9
        row.append(4)
        self.assertEqual(memory.cells(), [1, 2, 3])
        memory.write(1, 8)
        self.assertEqual(row, [9, 2, 3, 4])

    def test_a_row_of_all_cells(self):
        memory = Memory(3)
        row = [5, 6, 7]
        memory.put(0, row)
        told = memory.cells()
        memory.put(0, [0, 0, 0])
        self.assertEqual((row, told), ([5, 6, 7], [5, 6, 7]))

    def test_what_was_told(self):
        memory = filled(1, None, 3)
        memory.cells()[0] = 9
        memory.cells().append(9)
        memory.row(0, 3)[1] = 9
        memory.row(0, 3).clear()
        self.assertEqual(memory.cells(), [1, None, 3])
        self.assertEqual(memory.row(0, 3), [1, None, 3])

    def test_what_was_told_stays_as_it_was(self):
        memory = filled(1, None, 3)
        told = memory.cells()
        row = memory.row(0, 3)
        memory.write(0, 5)
        memory.spoil(2, None)
        self.assertEqual(told, [1, None, 3])
        self.assertEqual(row, [1, None, 3])


if __name__ == "__main__":
    unittest.main()
