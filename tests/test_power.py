"""Point 3 of the document: where power goes, and what needs it."""

import unittest

from helping import FAR, HOW, Refusals, filled, torn_cell, without_power

from twoimages.cells import Memory
from twoimages.errors import BadCut, BadPlace, BadSize, BadWorth, Stopped


def dark(*row):
    """A memory of these cells, its power away; its first cell stayed as it was."""
    return without_power(filled(*row))


class Cuts(Refusals):
    def test_in_the_next_write(self):
        for torn in HOW:
            with self.subTest(torn):
                memory = filled(4, 5, 6)
                self.assertIsNone(memory.cut(0, torn))
                self.refused(Stopped, memory.write, 1, 9)
                self.assertEqual(memory.cells(), [4, torn_cell(torn, 5, 9), 6])
                self.assertEqual(memory.writes(), 0)

    def test_in_a_later_write(self):
        for torn in HOW:
            for many in (1, 2, 5):
                with self.subTest((torn, many)):
                    memory = Memory(7)
                    memory.cut(many, torn)
                    for place in range(many):
                        memory.write(place, place + 1)
                    self.assertEqual(memory.writes(), many)
                    self.refused(Stopped, memory.write, many, 99)
                    row = list(range(1, many + 1)) + [torn_cell(torn, 0, 99)] + [0] * (6 - many)
                    self.assertEqual(memory.cells(), row)
                    self.assertEqual(memory.writes(), many)

    def test_a_broken_cell(self):
        for torn in HOW:
            with self.subTest(torn):
                memory = filled(4, None)
                memory.cut(0, torn)
                self.refused(Stopped, memory.write, 1, 9)
                self.assertEqual(memory.cells(), [4, torn_cell(torn, None, 9)])

    def test_a_cell_that_holds_the_number_already(self):
        for torn in HOW:
            with self.subTest(torn):
                memory = filled(4, 5)
                memory.cut(0, torn)
                self.refused(Stopped, memory.write, 1, 5)
                self.assertEqual(memory.cells(), [4, torn_cell(torn, 5, 5)])
                self.assertEqual(memory.writes(), 0)

    def test_it_counts_from_where_it_is_told(self):
        memory = Memory(4)
        memory.write(0, 1)
        memory.write(1, 1)
        memory.cut(1, "new")
        memory.write(2, 1)
        self.refused(Stopped, memory.write, 3, 1)
        self.assertEqual(memory.cells(), [1, 1, 1, 1])
        self.assertEqual(memory.writes(), 3)

    def test_in_each_write_of_a_put(self):
        elder = [1, 2, None, 4, 5]
        newer = [6, 2, 7, 4, 8]
        written = (0, 2, 4)
        for torn in HOW:
            for many in range(3):
                with self.subTest((torn, many)):
                    memory = filled(*elder)
                    memory.cut(many, torn)
                    self.refused(Stopped, memory.put, 0, newer)
                    row = list(elder)
                    for place in written[:many]:
                        row[place] = newer[place]
                    at = written[many]
                    row[at] = torn_cell(torn, elder[at], newer[at])
                    self.assertEqual(memory.cells(), row)
                    self.assertEqual(memory.writes(), many)

    def test_behind_all_writes_of_a_put(self):
        memory = filled(1, 2, 3)
        memory.cut(2, "broken")
        self.assertEqual(memory.put(0, [4, 2, 5]), 2)
        self.assertEqual(memory.cells(), [4, 2, 5])
        self.refused(Stopped, memory.put, 0, [4, 6, 5])
        self.assertEqual(memory.cells(), [4, None, 5])

    def test_a_put_done_again_goes_on(self):
        for torn in HOW:
            for many in range(4):
                memory = filled(1, 2, 3, 4)
                memory.cut(many, torn)
                self.refused(Stopped, memory.put, 0, [5, 6, 7, 8])
                memory.up()
                left = 4 - many - (1 if torn == "new" else 0)
                self.assertEqual(memory.put(0, [5, 6, 7, 8]), left)
                self.assertEqual(memory.cells(), [5, 6, 7, 8])
                self.assertEqual(memory.writes(), many + left)

    def test_what_is_no_write_does_not_count(self):
        memory = filled(1, 2, 3)
        memory.cut(0, "broken")
        memory.read(0)
        memory.row(0, 3)
        memory.cells()
        memory.writes()
        memory.spoil(1, 8)
        memory.spoil(2, None)
        self.assertEqual(memory.put(0, [1, 8]), 0)
        self.refused(BadPlace, memory.write, 3, 1)
        self.refused(BadWorth, memory.write, 0, 9973)
        self.refused(BadWorth, memory.put, 0, [5, -1])
        self.assertEqual(memory.cells(), [1, 8, None])
        self.refused(Stopped, memory.write, 0, 9)
        self.assertEqual(memory.cells(), [None, 8, None])

    def test_the_latest_cut(self):
        memory = Memory(2)
        memory.cut(100000, "new")
        for _ in range(100000):
            memory.write(0, 3)
        self.assertEqual(memory.writes(), 100000)
        self.refused(Stopped, memory.write, 1, 4)
        self.assertEqual(memory.cells(), [3, 4])
        self.assertEqual(memory.writes(), 100000)


class OtherCuts(Refusals):
    def test_they_are_refused(self):
        memory = Memory(2)
        for torn in HOW:
            for many in (-1, 100001, -2, 100002, -100000, FAR, -FAR):
                with self.subTest((many, torn)):
                    self.refused(BadCut, memory.cut, many, torn)
        for many in (0, 1, 100000, -1, 100001):
            for torn in ("", "Old", "NEW", "brok", "olden", "ol", "old broken", "none", " new"):
                with self.subTest((many, torn)):
                    self.refused(BadCut, memory.cut, many, torn)
        memory.write(0, 1)
        self.assertEqual(memory.cells(), [1, 0])

    def test_the_one_that_is_due_stays(self):
        memory = Memory(3)
        memory.cut(1, "broken")
        self.refused(BadCut, memory.cut, -1, "new")
        self.refused(BadCut, memory.cut, 100001, "new")
        self.refused(BadCut, memory.cut, 0, "newer")
        memory.write(0, 1)
        self.refused(Stopped, memory.write, 1, 1)
        self.assertEqual(memory.cells(), [1, None, 0])


class NewerCuts(Refusals):
    def test_a_sooner_one(self):
        memory = Memory(3)
        memory.cut(2, "broken")
        memory.cut(0, "new")
        self.refused(Stopped, memory.write, 0, 1)
        self.assertEqual(memory.cells(), [1, 0, 0])

    def test_a_later_one(self):
        memory = Memory(3)
        memory.cut(0, "new")
        memory.cut(2, "broken")
        memory.write(0, 1)
        memory.write(1, 1)
        self.refused(Stopped, memory.write, 2, 1)
        self.assertEqual(memory.cells(), [1, 1, None])

    def test_one_told_when_some_of_the_writes_were(self):
        memory = Memory(4)
        memory.cut(2, "broken")
        memory.write(0, 1)
        memory.cut(2, "old")
        memory.write(1, 1)
        memory.write(2, 1)
        self.refused(Stopped, memory.write, 3, 1)
        self.assertEqual(memory.cells(), [1, 1, 1, 0])

    def test_only_one_is_due(self):
        memory = Memory(3)
        memory.cut(1, "old")
        memory.cut(0, "old")
        self.refused(Stopped, memory.write, 0, 1)
        memory.up()
        memory.write(0, 1)
        memory.write(1, 1)
        memory.write(2, 1)
        self.assertEqual(memory.cells(), [1, 1, 1])


class PowerAway(Refusals):
    def test_all_that_reads_or_writes_is_stopped(self):
        memory = dark(4, 5, None)
        for _ in range(2):
            self.refused(Stopped, memory.read, 1)
            self.refused(Stopped, memory.read, 2)
            self.refused(Stopped, memory.row, 0, 3)
            self.refused(Stopped, memory.write, 1, 9)
            self.refused(Stopped, memory.write, 1, 5)
            self.refused(Stopped, memory.put, 0, [7, 8, 9])
            self.refused(Stopped, memory.put, 0, [4, 5])
        self.assertEqual(memory.cells(), [4, 5, None])
        self.assertEqual(memory.writes(), 0)

    def test_so_it_is_behind_each_sort_of_cut(self):
        for torn in HOW:
            with self.subTest(torn):
                memory = filled(4, 5)
                memory.write(0, 6)
                memory.cut(0, torn)
                self.refused(Stopped, memory.put, 0, [6, 7])
                self.refused(Stopped, memory.read, 0)
                self.refused(Stopped, memory.row, 0, 1)
                self.refused(Stopped, memory.write, 0, 9)
                self.refused(Stopped, memory.put, 0, [9])
                self.assertEqual(memory.cells(), [6, torn_cell(torn, 5, 7)])
                self.assertEqual(memory.writes(), 1)

    def test_what_needs_no_power(self):
        memory = dark(4, 5, 6)
        self.assertEqual(memory.cells(), [4, 5, 6])
        self.assertEqual(memory.writes(), 0)
        self.assertIsNone(memory.spoil(1, None))
        self.assertIsNone(memory.spoil(2, 9972))
        self.assertIsNone(memory.cut(3, "new"))
        self.assertEqual(memory.cells(), [4, None, 9972])
        self.refused(Stopped, memory.read, 0)

    def test_what_is_refused_is_refused_the_same(self):
        memory = dark(4, 5, 6)
        for place in (-1, 3, -3, FAR):
            self.refused(BadPlace, memory.read, place)
            self.refused(BadPlace, memory.row, place, 1)
            self.refused(BadPlace, memory.write, place, 9)
            self.refused(BadPlace, memory.write, place, -1)
            self.refused(BadPlace, memory.put, place, [9])
            self.refused(BadPlace, memory.spoil, place, None)
            self.refused(BadPlace, memory.spoil, place, 9973)
        for worth in (-1, 9973, FAR):
            self.refused(BadWorth, memory.write, 0, worth)
            self.refused(BadWorth, memory.put, 0, [4, worth, 6, 7])
            self.refused(BadWorth, memory.spoil, 0, worth)
        self.refused(BadPlace, memory.row, 0, 4)
        self.refused(BadPlace, memory.put, 2, [1, -1])
        self.refused(BadCut, memory.cut, -1, "old")
        self.refused(BadCut, memory.cut, 100001, "old")
        self.refused(BadCut, memory.cut, 0, "torn")
        self.refused(BadSize, Memory, 0)
        self.assertEqual(memory.cells(), [4, 5, 6])
        self.assertEqual(memory.writes(), 0)


class PowerAgain(Refusals):
    def test_all_works_and_the_cells_stayed(self):
        for torn in HOW:
            with self.subTest(torn):
                memory = Memory(3)
                memory.cut(1, torn)
                self.refused(Stopped, memory.put, 0, [7, 8, 9])
                self.assertIsNone(memory.up())
                row = [7, torn_cell(torn, 0, 8), 0]
                self.assertEqual(memory.cells(), row)
                self.assertEqual(memory.row(0, 3), row)
                self.assertEqual(memory.read(1), row[1])
                memory.write(2, 5)
                self.assertEqual(memory.put(0, [7, 3]), 1)
                self.assertEqual(memory.cells(), [7, 3, 5])
                self.assertEqual(memory.writes(), 3)

    def test_a_cut_that_came_comes_but_once(self):
        memory = Memory(2)
        memory.cut(0, "old")
        self.refused(Stopped, memory.write, 0, 1)
        self.refused(Stopped, memory.write, 0, 1)
        memory.up()
        for worth in range(1, 9):
            memory.write(0, worth)
        self.assertEqual(memory.writes(), 8)

    def test_a_cut_told_while_power_is_away_is_not_due_behind_up(self):
        memory = dark(4, 5)
        memory.cut(0, "broken")
        memory.up()
        memory.write(0, 1)
        memory.write(1, 1)
        self.assertEqual(memory.cells(), [1, 1])

    def test_up_without_a_cut_that_came_calls_off_the_one_that_is_due(self):
        memory = Memory(3)
        memory.cut(1, "broken")
        memory.write(0, 1)
        self.assertIsNone(memory.up())
        memory.write(1, 1)
        memory.write(2, 1)
        self.assertEqual(memory.cells(), [1, 1, 1])
        self.assertEqual(memory.writes(), 3)

    def test_up_without_any_cut(self):
        memory = filled(1, None)
        memory.up()
        memory.up()
        self.assertEqual(memory.cells(), [1, None])
        memory.write(1, 3)
        self.assertEqual(memory.row(0, 2), [1, 3])

    def test_a_new_cut_behind_up(self):
        memory = dark(4, 5)
        memory.up()
        memory.cut(1, "new")
        memory.write(0, 6)
        self.refused(Stopped, memory.write, 1, 7)
        self.assertEqual(memory.cells(), [6, 7])
        self.refused(Stopped, memory.read, 0)
        memory.up()
        self.assertEqual(memory.read(1), 7)
        self.assertEqual(memory.writes(), 1)


if __name__ == "__main__":
    unittest.main()
