"""Points 8 and 9 of the document: where things lie in a machine's memory, and what is judged of a slot."""

import itertools
import unittest

from helping import FAR, Refusals, filled, without_power
from laying import KEYS, PLACES, both_sums, laid, sealed

from twoimages.cells import Memory
from twoimages.errors import BadKeys, BadPicture, Stopped
from twoimages.manifests import manifest_of
from twoimages.pictures import BOOK, FIRST_SLOT, KEY_FLOOR, MACHINE_CELLS, VERSION_FLOOR, judged, slot_place
from twoimages.pictures import check_keys, check_picture

CELLS = (4, 0, 9972, 17, 3)
REASONS = ("none", "length", "sum", "key", "seal", "old")


def machine(slot, row, versions=(0, 0), key_floor=(0, 0)):
    """A machine's memory with this row in a slot, and these cells of the floors."""
    cells = [0] * 54
    cells[0:2] = versions
    cells[2:4] = key_floor
    cells[PLACES[slot]:PLACES[slot] + 19] = row
    return filled(*cells)


class Places(unittest.TestCase):
    def test_where_things_lie(self):
        self.assertEqual((VERSION_FLOOR, KEY_FLOOR, BOOK, FIRST_SLOT, MACHINE_CELLS), (0, 2, 4, 16, 54))
        self.assertEqual((slot_place(0), slot_place(1)), PLACES)

    def test_a_slot_worked_out_by_hand(self):
        # The sums of (1, 2, 3) are (9, 16); key 2: 2*2+5+1, 10*2+3+1, 24*2+9+1, 58*2+16+1, 133*2+0+1.
        row = [1, 5, 3, 9, 16, 0, 267, 1, 2, 3] + [0] * 9
        self.assertEqual(laid(5, (1, 2, 3), 0, (2,)), row)
        for slot in (0, 1):
            self.assertEqual(judged(machine(slot, row), (2,), slot), ("good", 5))
            row_of_other_mark = [2] + row[1:]
            self.assertEqual(judged(machine(slot, row_of_other_mark), (2,), slot), ("none",))

    def test_a_slot_holds_what_a_manifest_tells(self):
        for version, cells, number in ((7, CELLS, 2), (999, (1,), 0), (1, tuple(range(12)), 3)):
            head = manifest_of(KEYS, (version, cells, number))[:6]
            self.assertEqual([1, *head, *cells] + [0] * (12 - len(cells)), laid(version, cells, number))


class Judging(Refusals):
    def told(self, row, versions=(0, 0), key_floor=(0, 0), keys=KEYS):
        """What is told of this row, in either slot; nothing is written, and the same is told again."""
        answers = []
        for slot in (0, 1):
            memory = machine(slot, row, versions, key_floor)
            before = memory.cells()
            answers += [judged(memory, keys, slot), judged(memory, keys, slot)]
            self.assertEqual(judged(memory, keys, 1 - slot), ("none",))
            self.assertEqual(memory.cells(), before)
            self.assertEqual(memory.writes(), 0)
        self.assertEqual(answers, [answers[0]] * 4)
        self.assertIsInstance(answers[0], tuple)
        return answers[0]

    def test_good_pictures(self):
        for many in range(1, 13):
            for number in range(4):
                cells = tuple((at * 997 + many * 31) % 9973 for at in range(many))
                self.assertEqual(self.told(laid(many * 83, cells, number)), ("good", many * 83))
        for version in (1, 2, 998, 999):
            self.assertEqual(self.told(laid(version, CELLS, 1)), ("good", version))
        self.assertEqual(self.told(laid(3, (9972,) * 12, 0)), ("good", 3))

    def test_none_where_nothing_was_laid(self):
        memory = Memory(54)
        self.assertEqual([judged(memory, KEYS, slot) for slot in (0, 1)], [("none",), ("none",)])
        self.assertEqual(self.told([None] * 19), ("none",))

    def test_none_for_other_marks(self):
        for mark in (0, 2, 3, 9972, None):
            self.assertEqual(self.told([mark] + laid(7, CELLS, 2)[1:]), ("none",))

    def test_none_for_a_broken_cell_of_the_head(self):
        for at in range(7):
            row = laid(7, CELLS, 2)
            row[at] = None
            with self.subTest(at):
                self.assertEqual(self.told(row), ("none",))

    def test_length(self):
        for length in (0, 13, 14, 9972):
            # All else is right: the sums are those of so many of the cells, and so is the seal.
            cells = [4] * min(length, 12)
            head = sealed(KEYS[2], [7, length, *both_sums(cells), 2])
            row = [1, *head, *cells] + [0] * (12 - len(cells))
            self.assertEqual(self.told(row), ("length",))
        self.assertEqual(self.told(laid(7, (4,), 2)), ("good", 7))
        self.assertEqual(self.told(laid(7, (4,) * 12, 2)), ("good", 7))

    def test_sum_for_each_cell_of_the_picture(self):
        for at, other in itertools.product(range(5), (None, 1, 9971, 5000)):
            row = laid(7, CELLS, 2)
            row[7 + at] = other
            with self.subTest((at, other)):
                self.assertEqual(self.told(row), ("sum",))

    def test_sum_for_other_sums_with_a_right_seal(self):
        one, two = both_sums(CELLS)
        for sums in ((one + 1, two), (one, two + 1), (two, one), (0, 0), (9972, 9972)):
            row = [1, *sealed(KEYS[2], [7, 5, *sums, 2]), *CELLS] + [0] * 7
            self.assertEqual(self.told(row), ("sum",))

    def test_sum_for_another_length_with_a_right_seal(self):
        for length in (4, 6, 12):
            row = [1, *sealed(KEYS[2], [7, length, *both_sums(CELLS), 2]), *CELLS] + [0] * 7
            self.assertEqual(self.told(row), ("sum",))

    def test_cells_behind_the_end(self):
        for at, other in itertools.product(range(12, 19), (None, 1, 9972)):
            row = laid(7, CELLS, 2)
            row[at] = other
            self.assertEqual(self.told(row), ("good", 7))
        self.assertEqual(self.told(laid(7, CELLS, 2)[:12] + [None] * 7), ("good", 7))

    def test_key_that_there_is_not(self):
        for keys in (KEYS[:1], KEYS[:2], KEYS[:3], KEYS):
            for number in (0, 1, 2, 3, 4, 9972):
                key = KEYS[number] if number < 4 else KEYS[3]
                row = [1, *sealed(key, [7, 5, *both_sums(CELLS), number]), *CELLS] + [0] * 7
                right = ("good", 7) if number < len(keys) else ("key",)
                self.assertEqual(self.told(row, keys=keys), right)

    def test_key_floors(self):
        for number in range(4):
            for floor, right in ((0, True), (number, True), (number + 1, False), (4, False), (9972, False)):
                answer = ("good", 7) if right else ("key",)
                for cells in ((floor, 0), (0, floor), (floor, None), (None, floor), (floor, floor)):
                    with self.subTest((number, cells)):
                        self.assertEqual(self.told(laid(7, CELLS, number), key_floor=cells), answer)
            self.assertEqual(self.told(laid(7, CELLS, number), key_floor=(None, None)), ("good", 7))

    def test_seal(self):
        right = laid(7, CELLS, 2)
        for more in (1, 2, 5000, 9972):
            row = list(right)
            row[6] = (row[6] + more) % 9973
            self.assertEqual(self.told(row), ("seal",))
        for other in (8, 1, 999, 0, 9972):
            self.assertEqual(self.told([1, other] + right[2:]), ("seal",))
        self.assertEqual(self.told(laid(7, CELLS, 0)[:5] + [2] + right[6:]), ("good", 7))
        self.assertEqual(self.told(right[:5] + [1] + right[6:]), ("seal",))
        self.assertEqual(self.told(right, keys=(5, 9972, 1235, 77)), ("seal",))
        self.assertEqual(self.told(right, keys=(6, 9971, 1234)), ("good", 7))

    def test_version_floors(self):
        for version in (1, 7, 999):
            right = ("good", version)
            for floor in (0, 1, version - 1, version, version + 1, 9972):
                answer = right if floor <= version else ("old",)
                for cells in ((floor, 0), (0, floor), (floor, None), (None, floor), (floor, floor)):
                    with self.subTest((version, cells)):
                        self.assertEqual(self.told(laid(version, CELLS, 1), versions=cells), answer)
            self.assertEqual(self.told(laid(version, CELLS, 1), versions=(None, None)), right)

    def test_floors_are_not_one_for_the_other(self):
        self.assertEqual(self.told(laid(7, CELLS, 2), versions=(7, 7), key_floor=(2, 2)), ("good", 7))
        self.assertEqual(self.told(laid(7, CELLS, 2), versions=(2, 2), key_floor=(7, 7)), ("key",))

    def test_of_several_the_first_is_told(self):
        for faults in itertools.product((False, True), repeat=6):
            none, length, other_sum, key, seal, old = faults
            cells = CELLS[:1] + ((9,) if other_sum else CELLS[1:2]) + CELLS[2:]
            head = sealed(KEYS[2], [7, 13 if length else 5, *both_sums(CELLS), 2])
            head[5] = (head[5] + 1) % 9973 if seal else head[5]
            row = [0 if none else 1, *head, *cells] + [0] * 7
            told = self.told(row, (8 if old else 7, 0), (3 if key else 2, 0))
            first = [reason for reason, fault in zip(REASONS, faults) if fault][:1]
            with self.subTest(first):
                self.assertEqual(told, (first[0],) if first else ("good", 7))

    def test_of_several_the_first_is_told_for_broken_cells(self):
        row = laid(7, CELLS, 2)
        broken_cell = row[:7] + [None] * 12
        self.assertEqual(self.told(broken_cell, (9, 9), (3, 3)), ("sum",))
        self.assertEqual(self.told(row[:6] + [None] + broken_cell[7:], (9, 9), (3, 3)), ("none",))
        self.assertEqual(self.told(row[:2] + [0] + broken_cell[3:], (9, 9), (3, 3)), ("length",))
        self.assertEqual(self.told(row[:2] + [None] + row[3:]), ("none",))

    def test_both_slots_by_themselves(self):
        cells = [0] * 54
        cells[16:35] = laid(3, CELLS, 0)
        cells[35:54] = laid(8, (1, 2), 1)
        memory = filled(*cells)
        self.assertEqual([judged(memory, KEYS, slot) for slot in (0, 1)], [("good", 3), ("good", 8)])
        memory.spoil(16, 0)
        self.assertEqual([judged(memory, KEYS, slot) for slot in (0, 1)], [("none",), ("good", 8)])
        memory.spoil(42, 7)
        self.assertEqual([judged(memory, KEYS, slot) for slot in (0, 1)], [("none",), ("sum",)])

    def test_the_book_is_not_looked_at(self):
        memory = machine(1, laid(7, CELLS, 2))
        for at in range(4, 16):
            memory.spoil(at, None)
        self.assertEqual(judged(memory, KEYS, 1), ("good", 7))

    def test_while_power_is_away(self):
        memory = without_power(machine(0, laid(7, CELLS, 2)))
        before = memory.cells()
        self.refused(Stopped, judged, memory, KEYS, 0)
        self.refused(Stopped, judged, memory, KEYS, 1)
        self.assertEqual(memory.cells(), before)
        memory.up()
        self.assertEqual(judged(memory, KEYS, 0), ("good", 7))

    def test_a_cut_that_is_due_does_not_come(self):
        memory = machine(0, laid(7, CELLS, 2))
        memory.cut(0, "broken")
        self.assertEqual(judged(memory, KEYS, 0), ("good", 7))
        self.refused(Stopped, memory.write, 0, 1)


class Checks(Refusals):
    """What later parts ask of keys and pictures; manifest_of asks the same."""

    def test_what_can_be(self):
        for keys in ((1,), (9972,), (1, 9972), (3, 3, 3), (1, 2, 3, 4)):
            self.assertIsNone(check_keys(keys))
            self.assertIsNone(check_picture(keys, (1, (0,), len(keys) - 1)))

    def test_what_can_not(self):
        self.refused(BadKeys, check_keys, ())
        self.refused(BadKeys, check_keys, (1, 2, 3, 4, 5))
        self.refused(BadKeys, check_keys, (1, 0))
        self.refused(BadKeys, check_keys, (FAR,))
        self.assertEqual(self.refused(BadPicture, check_picture, (1,), (0, (), 1)).word, "version")
        self.assertEqual(self.refused(BadPicture, check_picture, (1,), (1, (), 1)).word, "cells")
        self.assertEqual(self.refused(BadPicture, check_picture, (1,), (1, (0,), 1)).word, "key")


if __name__ == "__main__":
    unittest.main()
