"""Points 14 and 15 of the document: a machine from the factory, and what is told of one."""

import itertools

from helping import FAR, HOW, Refusals
from laying import KEYS, PLACES, laid, manifest, page, store

from twoimages.errors import BadCut, BadKeys, BadManifest, BadPicture, BadPlace, BadStores, BadWorth, Stopped
from twoimages.starting import Machine

CELLS = (4, 0, 9972, 17, 3)
PICTURE = (7, CELLS, 2)
NEW = (17, 3, 8, 1)
NO_KEYS = ((), (1, 2, 3, 4, 5), (1,) * 9, (0,), (9973,), (1, 0), (1, 2, 3, 9973), (-1, 1), (FAR,), (1, -FAR))
NO_TRIES = (0, 4, -1, 5, 9972, FAR, -FAR)
NO_PICTURES = (
    ("version", (0, CELLS, 2)), ("version", (1000, (), 9)), ("cells", (7, (), 2)), ("cells", (7, (0,) * 13, -1)),
    ("cells", (7, (1, -1), 2)), ("cells", (7, (9973,), 2)), ("key", (7, CELLS, 4)), ("key", (7, CELLS, -1)),
)


class Factory(Refusals):
    def new(self, keys, tries, picture):
        """A new machine's cells are all as the document tells them, and there are no writes."""
        machine = Machine(keys, tries, picture)
        version, cells, number = picture
        slot = laid(version, cells, number, keys)
        floors = [version, 0, number, 0]
        self.assertEqual(machine.cells(), floors + page(1, 0, 0, 0) + [0] * 6 + slot + slot)
        self.assertEqual(machine.writes(), 0)
        self.assertIsNone(machine.runs())
        self.assertEqual(machine.book(), (0, 0, 0))
        self.assertEqual(machine.floors(), (version, number))
        self.assertEqual(machine.slots(), [("good", version)] * 2)
        return machine

    def test_worked_out_by_hand(self):
        machine = self.new((2,), 1, (5, (1, 2, 3), 0))
        slot = [1, 5, 3, 9, 16, 0, 267, 1, 2, 3] + [0] * 9
        self.assertEqual(machine.cells(), [5, 0, 0, 0, 1, 0, 0, 0, 5, 14, 0, 0, 0, 0, 0, 0, *slot, *slot])

    def test_all_counts_of_keys_and_tries(self):
        for many, tries in itertools.product(range(1, 5), range(1, 4)):
            for number, version in itertools.product(range(many), (1, 7, 999)):
                self.new(KEYS[:many], tries, (version, CELLS, number))

    def test_pictures_of_all_lengths(self):
        for length in range(1, 13):
            self.new(KEYS, 3, (length, tuple(range(length)), length % 4))
        self.new((1, 9972), 2, (999, (9972,) * 12, 1))

    def test_keys_are_refused_first(self):
        for keys, tries, (_, picture) in itertools.product(NO_KEYS, (2, 0, FAR), [(0, PICTURE), *NO_PICTURES]):
            self.refused(BadKeys, Machine, keys, tries, picture)

    def test_other_tries(self):
        for tries, (_, picture) in itertools.product(NO_TRIES, [(0, PICTURE), *NO_PICTURES]):
            self.refused(BadKeys, Machine, KEYS, tries, picture)

    def test_pictures(self):
        for tries, (word, picture) in itertools.product((1, 2, 3), NO_PICTURES):
            self.assertEqual(self.refused(BadPicture, Machine, KEYS, tries, picture).word, word)
        for many in range(1, 4):
            self.assertEqual(self.refused(BadPicture, Machine, KEYS[:many], 2, (7, CELLS, many)).word, "key")


class Told(Refusals):
    def test_slots_and_floors(self):
        machine = Machine(KEYS, 2, PICTURE)
        for at, worth, why in ((0, 0, "none"), (2, 0, "length"), (7, None, "sum"), (5, 4, "key"), (6, 1, "seal")):
            for slot in (0, 1):
                machine = Machine(KEYS, 2, PICTURE)
                machine.spoil(slot, at, worth)
                told = [("good", 7), ("good", 7)]
                told[slot] = (why,)
                self.assertEqual(machine.slots(), told)
                self.assertEqual(machine.writes(), 0)

    def test_what_is_told_tells_the_same_again(self):
        machine = Machine(KEYS, 2, PICTURE)
        machine.start()
        for _ in range(2):
            self.assertEqual(machine.runs(), (0, "trusted"))
            self.assertEqual(machine.book(), (0, 0, 0))
            self.assertEqual(machine.floors(), (7, 2))
            self.assertEqual(machine.slots(), [("good", 7), ("good", 7)])
            self.assertEqual(len(machine.cells()), 54)
            self.assertEqual(machine.writes(), 0)

    def test_kinds(self):
        machine = Machine(KEYS, 2, PICTURE)
        self.assertIsInstance(machine.start(), tuple)
        for told, kind in (
            (machine.runs(), tuple), (machine.book(), tuple), (machine.floors(), tuple), (machine.slots(), list),
            (machine.slots()[0], tuple), (machine.cells(), list), (machine.writes(), int), (machine.yes(), tuple),
            (machine.double(), tuple), (machine.update(manifest(8, NEW, 2), [[]]), tuple),
            (machine.up(), type(None)), (machine.cut(3, "old"), type(None)), (machine.spoil(1, 7, None), type(None)),
        ):
            self.assertIs(type(told), kind)

    def test_lists_that_were_told_may_be_changed(self):
        machine = Machine(KEYS, 2, PICTURE)
        cells = machine.cells()
        told = list(cells)
        cells[16] = 0
        cells.append(1)
        slots = machine.slots()
        slots.clear()
        self.assertEqual(machine.cells(), told)
        self.assertEqual(machine.slots(), [("good", 7), ("good", 7)])
        self.assertEqual(machine.start(), ("started", 0, 7, "trusted"))

    def test_lists_that_were_handed_in_are_not_kept(self):
        keys, cells = list(KEYS), list(CELLS)
        machine = Machine(keys, 2, (7, cells, 2))
        self.assertEqual((keys, cells), (list(KEYS), list(CELLS)))
        keys[2] = 9
        keys.clear()
        cells[0] = 9
        self.assertEqual(machine.cells(), Machine(KEYS, 2, PICTURE).cells())
        self.assertEqual(machine.slots(), [("good", 7), ("good", 7)])
        stores = [store(NEW)]
        machine.start()
        self.assertEqual(machine.update(manifest(8, NEW, 2), stores), ("laid", 0, 0, 2))
        self.assertEqual(stores, [store(NEW)])
        stores[0].clear()
        stores.clear()
        self.assertEqual(machine.slots(), [("good", 7), ("good", 8)])

    def test_two_machines_do_nothing_to_each_other(self):
        one, other = Machine(KEYS, 2, PICTURE), Machine(KEYS, 2, PICTURE)
        before = other.cells()
        one.start()
        one.update(manifest(8, NEW, 2), [store(NEW)])
        one.spoil(0, 3, None)
        one.cut(0, "broken")
        self.refused(Stopped, one.start)
        self.assertEqual((other.cells(), other.writes(), other.runs()), (before, 0, None))
        self.assertEqual(other.start(), ("started", 0, 7, "trusted"))
        self.assertIsNone(one.runs())


class Spoiling(Refusals):
    def test_each_cell(self):
        for slot, at, worth in itertools.product((0, 1), range(19), (None, 0, 9972)):
            machine = Machine(KEYS, 2, PICTURE)
            cells = machine.cells()
            self.assertIsNone(machine.spoil(slot, at, worth))
            cells[PLACES[slot] + at] = worth
            self.assertEqual(machine.cells(), cells)
            self.assertEqual(machine.writes(), 0)

    def test_cells_that_there_are_not(self):
        machine = Machine(KEYS, 2, PICTURE)
        before = machine.cells()
        for slot, at in ((-1, 0), (2, 0), (-1, 18), (FAR, 0), (0, -1), (0, 19), (1, -1), (1, 19), (0, FAR), (1, -FAR)):
            for worth in (0, None, -1, 9973):
                self.refused(BadPlace, machine.spoil, slot, at, worth)
        for slot, at, worth in itertools.product((0, 1), (0, 18), (-1, 9973, FAR, -FAR)):
            self.refused(BadWorth, machine.spoil, slot, at, worth)
        self.assertEqual(machine.cells(), before)


class Power(Refusals):
    def stopped(self, torn="old"):
        """A machine that power went from in an update."""
        machine = Machine(KEYS, 2, PICTURE)
        machine.start()
        machine.cut(0, torn)
        self.refused(Stopped, machine.update, manifest(8, NEW, 2), [store(NEW)])
        return machine

    def test_what_needs_power(self):
        machine = self.stopped()
        before = machine.cells()
        for _ in range(2):
            for deed in (machine.start, machine.yes, machine.double, machine.book, machine.floors, machine.slots):
                self.refused(Stopped, deed)
            self.refused(Stopped, machine.update, manifest(8, NEW, 2), [store(NEW)])
            self.assertIsNone(machine.runs())
        self.assertEqual((machine.cells(), machine.writes()), (before, 0))

    def test_what_needs_none(self):
        machine = self.stopped("broken")
        cells = Machine(KEYS, 2, PICTURE).cells()
        cells[35] = None
        self.assertEqual(machine.cells(), cells)
        self.assertEqual(machine.writes(), 0)
        machine.spoil(1, 18, 5)
        cells[53] = 5
        machine.cut(3, "new")
        self.assertEqual(machine.cells(), cells)
        self.refused(Stopped, machine.start)

    def test_what_is_refused_without_power(self):
        machine = self.stopped()
        good = manifest(8, NEW, 2)
        self.assertEqual(self.refused(BadManifest, machine.update, (0, *good[1:]), []).word, "version")
        self.assertEqual(self.refused(BadStores, machine.update, good, []).number, 0)
        self.refused(BadPlace, machine.spoil, 2, 0, 0)
        self.refused(BadWorth, machine.spoil, 1, 0, -1)
        self.refused(BadCut, machine.cut, -1, "old")

    def test_up_behind_it(self):
        for torn in HOW:
            machine = self.stopped(torn)
            self.assertIsNone(machine.up())
            self.assertIsNone(machine.runs())
            for deed in (machine.yes, machine.double):
                self.assertEqual(deed(), ("down",))
            self.assertEqual(machine.update(manifest(8, NEW, 2), [store(NEW)]), ("down",))
            self.assertEqual(machine.start(), ("started", 0, 7, "trusted"))
            self.assertEqual(machine.runs(), (0, "trusted"))
            # No cut is due any more.
            self.assertEqual(machine.update(manifest(8, NEW, 2), [store(NEW)]), ("laid", 0, 0, 2))

    def test_up_calls_off_a_cut_that_is_due(self):
        machine = Machine(KEYS, 2, PICTURE)
        machine.start()
        machine.cut(0, "broken")
        machine.up()
        # The document says of up that nothing runs then, and makes no difference.
        self.assertIsNone(machine.runs())
        self.assertEqual(machine.yes(), ("down",))
        machine.start()
        self.assertEqual(machine.update(manifest(8, NEW, 2), [store(NEW)]), ("laid", 0, 0, 2))

    def test_a_newer_cut(self):
        machine = Machine(KEYS, 2, PICTURE)
        machine.start()
        machine.cut(0, "broken")
        machine.cut(100000, "old")
        self.assertEqual(machine.update(manifest(8, NEW, 2), [store(NEW)]), ("laid", 0, 0, 2))

    def test_cuts_that_can_not_be(self):
        machine = Machine(KEYS, 2, PICTURE)
        for many, torn in ((-1, "old"), (100001, "new"), (FAR, "broken"), (0, "torn"), (5, ""), (0, "OLD")):
            self.refused(BadCut, machine.cut, many, torn)
        machine.start()
        self.assertEqual(machine.update(manifest(8, NEW, 2), [store(NEW)]), ("laid", 0, 0, 2))
