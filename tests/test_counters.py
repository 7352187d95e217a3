"""Point 6 of the document: counters, and power that goes while they are raised (point 3)."""

import itertools
import unittest

from helping import FAR, HOW, Refusals, filled, stopped, torn_cell, without_power

from twoimages.cells import Memory
from twoimages.counters import count, raise_to
from twoimages.errors import BadPlace, BadWorth, Stopped

NO_NUMBERS = (-1, 9973, -2, 9974, -9972, FAR, -FAR)
SOME = (None, 0, 1, 5, 6, 9971, 9972)
# Both cells, the number to raise to, and both cells behind it (None where nothing is written).
RAISINGS = (
    ((0, 0), 1, (1, 0)),
    ((0, 0), 9972, (9972, 0)),
    ((0, 0), 0, None),
    ((3, 5), 6, (6, 5)),
    ((5, 3), 6, (5, 6)),
    ((5, 5), 6, (6, 5)),
    ((3, 5), 5, None),
    ((5, 3), 5, None),
    ((3, 5), 4, None),
    ((3, 5), 3, None),
    ((3, 5), 0, None),
    ((5, 5), 4, None),
    ((None, 5), 6, (6, 5)),
    ((5, None), 6, (5, 6)),
    ((None, 5), 5, None),
    ((5, None), 4, None),
    ((None, 0), 1, (1, 0)),
    ((0, None), 1, (0, 1)),
    ((None, 0), 0, None),
    ((0, None), 0, None),
    ((None, None), 0, (0, None)),
    ((None, None), 7, (7, None)),
    ((None, None), 9972, (9972, None)),
    ((9972, 9971), 9972, None),
    ((9971, 9970), 9972, (9971, 9972)),
    ((9971, 9972), 9971, None),
)


def told_by(first, second):
    whole = [worth for worth in (first, second) if worth is not None]
    return max(whole) if whole else None


class Counting(Refusals):
    def test_the_greatest_number_of_whole_cells(self):
        for cells, told in (
            ((0, 0), 0),
            ((4, 7), 7),
            ((7, 4), 7),
            ((7, 7), 7),
            ((0, 9972), 9972),
            ((None, 7), 7),
            ((7, None), 7),
            ((None, 0), 0),
            ((0, None), 0),
            ((None, None), None),
        ):
            with self.subTest(cells):
                memory = filled(*cells)
                self.assertEqual(count(memory, 0), told)
                self.assertEqual(count(memory, 0), told)
                self.assertEqual(memory.cells(), list(cells))
                self.assertEqual(memory.writes(), 0)

    def test_it_looks_at_two_cells_only(self):
        memory = filled(99, 1, 2, 98, None)
        self.assertEqual([count(memory, place) for place in range(4)], [99, 2, 98, 98])

    def test_cells_that_there_are_not(self):
        memory = filled(1, 2, 3)
        for place in (-1, -2, -3, 2, 3, 400, FAR, -FAR):
            with self.subTest(place):
                self.refused(BadPlace, count, memory, place)
        self.refused(BadPlace, count, Memory(1), 0)


class Raising(Refusals):
    def test_which_cell_is_written_and_what_is_told(self):
        for cells, number, behind in RAISINGS:
            with self.subTest((cells, number)):
                memory = filled(*cells)
                told = raise_to(memory, 0, number)
                self.assertIs(told, behind is not None)
                self.assertEqual(memory.cells(), list(behind or cells))
                self.assertEqual(memory.writes(), 1 if told else 0)
                self.assertEqual(count(memory, 0), told_by(*(behind or cells)))

    def test_every_two_cells(self):
        for first, second, number in itertools.product(SOME, SOME, range(9)):
            memory = filled(first, second)
            old = told_by(first, second)
            raised = old is None or old < number
            self.assertIs(raise_to(memory, 0, number), raised)
            self.assertEqual(count(memory, 0), number if raised else old)
            self.assertEqual(memory.writes(), 1 if raised else 0)

    def test_raised_again_it_is_there_already(self):
        memory = filled(3, 4)
        self.assertIs(raise_to(memory, 0, 9), True)
        self.assertIs(raise_to(memory, 0, 9), False)
        self.assertIs(raise_to(memory, 0, 8), False)
        self.assertEqual(memory.cells(), [9, 4])
        self.assertEqual(memory.writes(), 1)

    def test_it_goes_from_cell_to_cell(self):
        memory = Memory(2)
        for number in range(1, 7):
            self.assertIs(raise_to(memory, 0, number), True)
            self.assertEqual(count(memory, 0), number)
        self.assertEqual(memory.cells(), [5, 6])
        self.assertEqual(memory.writes(), 6)

    def test_all_other_cells_stay(self):
        for place in range(1, 5):
            memory = filled(11, 12, 13, 14, 15, 16, 17)
            self.assertIs(raise_to(memory, place, 99), True)
            row = [11, 12, 13, 14, 15, 16, 17]
            row[place] = 99
            self.assertEqual(memory.cells(), row)
        memory = filled(11, None, 13, None)
        self.assertIs(raise_to(memory, 2, 99), True)
        self.assertEqual(memory.cells(), [11, None, 13, 99])

    def test_cells_that_there_are_not(self):
        memory = filled(1, 2, 3)
        for place in (-1, -2, -3, 2, 3, 400, FAR, -FAR):
            for number in (0, 9) + NO_NUMBERS:
                with self.subTest((place, number)):
                    self.refused(BadPlace, raise_to, memory, place, number)
        self.refused(BadPlace, raise_to, Memory(1), 0, 1)
        self.assertEqual(memory.cells(), [1, 2, 3])
        self.assertEqual(memory.writes(), 0)

    def test_other_numbers_whatever_it_tells(self):
        for cells in ((0, 0), (5, 6), (None, 6), (6, None), (None, None), (9972, 9972)):
            memory = filled(*cells)
            for number in NO_NUMBERS:
                with self.subTest((cells, number)):
                    self.refused(BadWorth, raise_to, memory, 0, number)
            self.assertEqual(memory.cells(), list(cells))
            self.assertEqual(memory.writes(), 0)


class Power(Refusals):
    def test_behind_a_cut_raising(self):
        for cells, number, behind in RAISINGS:
            for torn in HOW:
                if behind is None:
                    continue
                with self.subTest((cells, number, torn)):
                    memory = filled(*cells)
                    memory.cut(0, torn)
                    self.refused(Stopped, raise_to, memory, 0, number)
                    row = [torn_cell(torn, old, new) if old != new else old for old, new in zip(cells, behind)]
                    self.assertEqual(memory.cells(), row)
                    memory.up()
                    old = told_by(*cells)
                    self.assertEqual(count(memory, 0), torn_cell(torn, old, number) if torn == "new" else old)
                    self.assertIs(raise_to(memory, 0, number), torn != "new")
                    self.assertEqual(count(memory, 0), number)

    def test_it_never_falls(self):
        """Many raisings on end, each of them cut somehow, some of them done again."""
        for first, second in itertools.product(SOME[:5], SOME[:5]):
            for turns in itertools.product(HOW, (True, False), repeat=2):
                memory = filled(first, second)
                old = count(memory, 0)
                for at, (torn, again) in enumerate(zip(turns[::2], turns[1::2])):
                    number = 7 + 2 * at
                    self.assertTrue(stopped(memory, 0, torn, raise_to, 0, number))
                    told = count(memory, 0)
                    self.assertIn(told, (old, number))
                    if again:
                        raise_to(memory, 0, number)
                        told = count(memory, 0)
                        self.assertEqual(told, number)
                    self.assertTrue(old is None or told >= old)
                    old = told

    def test_no_write_is_cut_where_none_is_needed(self):
        memory = filled(5, 6)
        memory.cut(0, "broken")
        self.assertIs(raise_to(memory, 0, 6), False)
        self.assertIs(raise_to(memory, 0, 2), False)
        self.assertEqual(memory.cells(), [5, 6])
        self.refused(Stopped, raise_to, memory, 0, 7)
        self.assertEqual(memory.cells(), [None, 6])

    def test_a_cut_behind_its_one_write(self):
        memory = filled(5, 6)
        memory.cut(1, "broken")
        self.assertIs(raise_to(memory, 0, 7), True)
        self.refused(Stopped, raise_to, memory, 0, 8)
        self.assertEqual(memory.cells(), [7, None])

    def test_while_power_is_away(self):
        memory = without_power(filled(5, 6))
        self.refused(Stopped, count, memory, 0)
        self.refused(Stopped, raise_to, memory, 0, 7)
        self.refused(Stopped, raise_to, memory, 0, 6)
        self.refused(Stopped, raise_to, memory, 0, 2)
        self.refused(BadPlace, count, memory, 1)
        self.refused(BadPlace, raise_to, memory, 1, 7)
        self.refused(BadWorth, raise_to, memory, 0, -1)
        self.refused(BadWorth, raise_to, memory, 0, 9973)
        self.assertEqual(memory.cells(), [5, 6])
        self.assertEqual(memory.writes(), 0)


if __name__ == "__main__":
    unittest.main()
