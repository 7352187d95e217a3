"""Point 13 of the document: both slots are made alike, and the floors are raised."""

import itertools

from helping import HOW, Refusals, filled, stopped, without_power
from laying import KEYS, NO_PAGE, NO_SLOT, PLACES
from laying import head, laid, memory_of, page, traced

from twoimages.cells import Memory
from twoimages.counters import count
from twoimages.errors import BadPlace, Stopped
from twoimages.mending import double
from twoimages.pictures import judged

NEW = (4, 0, 9972, 17, 3)
RIGHT = laid(8, NEW, 2)
ELDER = laid(7, (9, 9, 9, 9, 9, 9, 9), 1)
FLOORS = [(0, 8), (2, 2)]


class Doublings(Refusals):
    def memory(self, other, trusted=0, kept=RIGHT, **more):
        slots = [other, other]
        slots[trusted] = kept
        return memory_of(*slots, book=page(1, trusted, 0, 0), **more)

    def doubling(self, many, in_slot, other, trusted=0, floors=FLOORS, **more):
        """A doubling tells so many cells, does these writes to the other slot, then to the floors, and no others."""
        wanted = [(PLACES[1 - trusted] + at, worth) for at, worth in in_slot] + floors
        memory = self.memory(other, trusted, **more)
        cells = memory.cells()
        self.assertEqual(double(memory, KEYS), ("doubled", many))
        for at, worth in wanted:
            cells[at] = worth
        self.assertEqual(memory.cells(), cells)
        self.assertEqual(memory.writes(), len(wanted))
        self.assertEqual([judged(memory, KEYS, slot) for slot in (0, 1)], [("good", 8)] * 2)
        self.assertEqual((count(memory, 0), count(memory, 2)), (8, 2))
        self.assertEqual(traced(lambda: self.memory(other, trusted, **more), double, KEYS), wanted)
        writes = memory.writes()
        self.assertEqual(double(memory, KEYS), ("doubled", 0))
        self.assertEqual(memory.writes(), writes)

    def slot_writes(self, other, marked):
        """The writes to the other slot: what of the picture and of the head isn't there, and the marks."""
        told = [(0, 0)] if marked else []
        told += [(at, RIGHT[at]) for at in (*range(7, 12), *range(1, 7)) if other[at] != RIGHT[at]]
        return told + [(0, 1)]

    def test_worked_out_by_hand(self):
        # The picture is (2,) of version 5, sealed by key 2.
        kept = [1, 5, 1, 3, 3, 0, 201, 2] + [0] * 11
        memory = memory_of([0] * 19, kept, book=page(1, 1, 0, 0), versions=(4, 0))
        self.assertEqual(double(memory, (2,)), ("doubled", 1))
        self.assertEqual(memory.cells(), [4, 5, 0, 0, *page(1, 1, 0, 0), *NO_PAGE, *kept, *kept])
        # One cell, five numbers of the head (a 0 is there already), the mark, the version floor.
        self.assertEqual(memory.writes(), 1 + 5 + 1 + 1)

    def test_into_other_slots(self):
        for trusted in (0, 1):
            for other, many, marked in (
                (NO_SLOT, 4, False),
                (ELDER, 5, True),
                (laid(7, NEW, 2), 0, True),
                (laid(8, NEW, 3), 0, True),
                (laid(8, NEW[:4], 2), 1, True),
                ([0] + RIGHT[1:], 0, False),
                ([2] + RIGHT[1:], 0, True),
                ([None] + RIGHT[1:], 0, True),
                ([None] * 19, 5, True),
                (RIGHT[:3] + [None] + RIGHT[4:], 0, True),
            ):
                with self.subTest((trusted, other)):
                    self.doubling(many, self.slot_writes(other, marked), other, trusted)

    def test_the_other_slot_alike(self):
        for trusted in (0, 1):
            self.doubling(0, [], RIGHT, trusted)
            # What lies behind the picture is none of it.
            self.doubling(0, [], RIGHT[:12] + [None, 1, 2, 3, 4, 5, 6], trusted)

    def test_the_other_slot_alike_by_its_sums(self):
        twin, other = laid(8, (10, 10, 10), 2), laid(8, (11, 8, 11), 2)
        self.assertEqual(twin[:7], other[:7])
        self.doubling(0, [], other, kept=twin)

    def test_the_other_slot_alike_but_spoilt(self):
        for at, worth in itertools.product(range(7, 12), (None, 1)):
            other = [*RIGHT[:at], worth, *RIGHT[at + 1:]]
            self.doubling(1, [(0, 0), (at, RIGHT[at]), (0, 1)], other)
        other = RIGHT[:7] + [None] * 12
        self.doubling(5, self.slot_writes(other, True), other)

    def test_floors(self):
        for versions, keys in itertools.product(
            ((0, 0), (7, 0), (0, 7), (7, 6), (8, 0), (3, 8), (None, 3), (3, None), (None, None), (8, None)),
            ((0, 0), (1, 0), (0, 1), (2, 0), (1, 2), (None, 1), (1, None), (None, None), (None, 2)),
        ):
            floors = self.raising(0, versions, 8) + self.raising(2, keys, 2)
            with self.subTest((versions, keys)):
                self.doubling(0, [], RIGHT, floors=floors, versions=versions, key_floor=keys)

    def raising(self, place, cells, number):
        """The write that raises a floor, if it tells a lesser number or none."""
        first, second = [-1 if worth is None else worth for worth in cells]
        if max(first, second) >= number:
            return []
        return [(place if first <= second else place + 1, number)]

    def test_pictures_of_all_lengths(self):
        for length in range(1, 13):
            kept = laid(999, tuple(range(1, length + 1)), length % 4)
            for trusted in (0, 1):
                memory = self.memory([9] * 19, trusted, kept)
                self.assertEqual(double(memory, KEYS), ("doubled", length - (length >= 9)))
                slots = [memory.cells()[16:35], memory.cells()[35:54]]
                self.assertEqual(slots[trusted], kept)
                self.assertEqual(slots[1 - trusted], kept[:7 + length] + [9] * (12 - length))
                self.assertEqual((count(memory, 0), count(memory, 2)), (999, length % 4))

    def test_without_a_record(self):
        memory = memory_of(RIGHT, NO_SLOT, book=[None] * 12)
        self.assertEqual(double(memory, KEYS), ("doubled", 4))
        self.assertEqual(memory.cells()[4:], [None] * 12 + RIGHT * 2)


class Not(Refusals):
    def no(self, why, memory):
        before = memory.cells()
        self.assertEqual(double(memory, KEYS), ("no", why))
        self.assertEqual(double(memory, KEYS), ("no", why))
        self.assertEqual((memory.cells(), memory.writes()), (before, 0))

    def test_on_trial(self):
        for trusted, tries in itertools.product((0, 1), range(4)):
            for kept in (RIGHT, NO_SLOT):
                slots = [ELDER, ELDER]
                slots[trusted] = kept
                self.no("trial", memory_of(*slots, book=page(1, trusted, 1, tries)))

    def test_the_trusted_slot_not_good(self):
        for why, kept, floors in (
            ("none", NO_SLOT, {}),
            ("none", [0] + RIGHT[1:], {}),
            ("none", RIGHT[:4] + [None] + RIGHT[5:], {}),
            ("length", RIGHT[:2] + [13] + RIGHT[3:], {}),
            ("sum", RIGHT[:7] + [5] + RIGHT[8:], {}),
            ("sum", RIGHT[:7] + [None] + RIGHT[8:], {}),
            ("key", RIGHT, {"key_floor": (0, 3)}),
            ("seal", RIGHT[:6] + [(RIGHT[6] + 1) % 9973] + RIGHT[7:], {}),
            ("old", RIGHT, {"versions": (9, 0)}),
        ):
            for trusted, other in itertools.product((0, 1), (laid(99, (9, 9), 3), NO_SLOT, kept)):
                slots = [other, other]
                slots[trusted] = kept
                with self.subTest((why, trusted)):
                    self.no(why, memory_of(*slots, book=page(1, trusted, 0, 0), **floors))

    def test_refused(self):
        for size in (1, 34, 53):
            memory = Memory(size)
            for place, worth in enumerate([0, 0, 0, 0, *page(1, 0, 0, 0), *NO_PAGE, *RIGHT, *RIGHT][:size]):
                memory.spoil(place, worth)
            before = memory.cells()
            self.refused(BadPlace, double, memory, KEYS)
            self.assertEqual((memory.cells(), memory.writes()), (before, 0))
        # Nothing is written in cells that there are, either, for one that there isn't.
        memory = filled(*[0] * 4, *page(1, 0, 0, 0), *NO_PAGE, *laid(8, (5,) * 12, 2), *ELDER[:18])
        before = memory.cells()
        self.refused(BadPlace, double, memory, KEYS)
        self.assertEqual((memory.cells(), memory.writes()), (before, 0))
        memory = without_power(memory_of(RIGHT, ELDER))
        before = memory.cells()
        self.refused(Stopped, double, memory, KEYS)
        self.assertEqual((memory.cells(), memory.writes()), (before, 0))


class Cuts(Refusals):
    def test_each_write(self):
        for trusted, other in itertools.product((0, 1), (NO_SLOT, ELDER, RIGHT, RIGHT[:8] + [None] * 11, [None] * 19)):
            slots = [other, other]
            slots[trusted] = RIGHT
            make = lambda: memory_of(*slots, book=page(1, trusted, 0, 0), versions=(7, 6), key_floor=(1, 0))
            writes = traced(make, double, KEYS)
            self.assertEqual(writes[-2:], [(1, 8), (3, 2)])
            for many, torn in itertools.product(range(len(writes)), HOW):
                memory = make()
                self.assertTrue(stopped(memory, many, torn, double, KEYS))
                self.between(memory, trusted, len(writes) - many, torn)
                told = double(memory, KEYS)
                self.assertEqual(told[0], "doubled")
                self.assertEqual([judged(memory, KEYS, slot) for slot in (0, 1)], [("good", 8)] * 2)
                self.assertEqual((count(memory, 0), count(memory, 2)), (8, 2))
                self.assertEqual(memory.row(PLACES[1 - trusted], 7), [1, *head(8, NEW, 2)])
                self.assertEqual(memory.row(PLACES[1 - trusted] + 7, 5), list(NEW))

    def between(self, memory, trusted, left, torn):
        """Behind a cut with so many writes left, that of the cut among them."""
        self.assertEqual(judged(memory, KEYS, trusted), ("good", 8))
        floors = (count(memory, 0), count(memory, 2))
        version = 8 if left < 2 or (left == 2 and torn == "new") else 7
        number = 2 if left == 1 and torn == "new" else 1
        self.assertEqual(floors, (version, number))
        if floors != (7, 1):
            # No floor is raised ahead of the other slot's being alike.
            self.assertEqual(judged(memory, KEYS, 1 - trusted), ("good", 8))

    def test_how_many_cells_are_written_when_it_is_asked_again(self):
        told = []
        for many in range(15):
            memory = memory_of(RIGHT, ELDER)
            self.assertTrue(stopped(memory, many, "old", double, KEYS))
            told.append(double(memory, KEYS)[1])
        self.assertEqual(told, [5, 5, 4, 3, 2, 1] + [0] * 9)
        self.assertEqual(len(traced(lambda: memory_of(RIGHT, ELDER), double, KEYS)), 15)
