"""Point 12 of the document: a new picture is laid beside the trusted one."""

import itertools

from helping import FAR, HOW, Refusals, stopped, without_power
from laying import KEYS, NO_PAGE, NO_SLOT, PLACES
from laying import head, laid, manifest, memory_of, noting, page, pieces, store, title, traced

from twoimages.books import record
from twoimages.cells import Memory
from twoimages.errors import BadManifest, BadPlace, BadStores, BadWorth, Stopped
from twoimages.mending import update
from twoimages.pictures import judged

# The new picture has the old one's second piece as its first; its other pieces are its own.
OLD = (4, 0, 9972, 17, 3, 8, 100)
NEW = (17, 3, 8, 1, 2, 3, 55, 66)
STORES = [store(NEW)]
ELDER = (9, 9, 9, 9, 9, 9, 9, 9, 9, 9, 9, 9)
TWINS = ((10, 10, 10), (11, 8, 11))


class Updates(Refusals):
    def memory(self, trusted=0, state=0, tries=0, other=NO_SLOT, kept=None, **floors):
        """A memory whose trusted slot has the old picture of version 5 and key 1."""
        slots = [other, other]
        slots[trusted] = laid(5, OLD, 1) if kept is None else kept
        return memory_of(*slots, book=page(1, trusted, state, tries), **floors)

    def writes(self, make, trusted, filling, new=manifest(8, NEW, 2), state=0, tries=3, marked=False):
        """The writes of laying a picture, of which this row of places and numbers fills its cells."""
        place = PLACES[1 - trusted]
        cells = make().cells()
        told = noting(1, 2, trusted, 0, 0) if state == 1 else []
        told += [(place, 0)] if marked else []
        told += [(place + 7 + at, worth) for at, worth in filling]
        told += [(at, worth) for at, worth in enumerate(new[:6], start=place + 1) if cells[at] != worth]
        told += [(place, 1)]
        return told + (noting(0, 3, trusted, 1, tries) if state == 1 else noting(1, 2, trusted, 1, tries))

    def laying(self, make, told, filling, new=manifest(8, NEW, 2), stores=STORES, **more):
        """An update tells this, does these writes, one behind the other, and no others."""
        trusted = record(make(), 4)[0]
        wanted = self.writes(make, trusted, filling, new, **more)
        tries = more.get("tries", 3)
        memory = make()
        cells = memory.cells()
        self.assertEqual(update(memory, KEYS, tries, new, stores), told)
        for place, worth in wanted:
            cells[place] = worth
        self.assertEqual(memory.cells(), cells)
        self.assertEqual(memory.writes(), len(wanted))
        self.assertEqual(record(memory, 4), (trusted, 1, tries))
        self.assertEqual(judged(memory, KEYS, 1 - trusted), ("good", new[0]))
        self.assertEqual(traced(make, update, KEYS, tries, new, stores), wanted)

    def test_into_an_empty_slot(self):
        for trusted, tries in itertools.product((0, 1), (1, 2, 3)):
            with self.subTest((trusted, tries)):
                self.laying(lambda: self.memory(trusted), ("laid", 0, 1, 2), list(enumerate(NEW)), tries=tries)

    def test_worked_out_by_hand(self):
        # Key 2 seals (5, 1, 3, 3, 0): 2*2+5+1, 10*2+1+1, 22*2+3+1, 48*2+3+1, 100*2+0+1; for version 6: 2 times 2 + 7.
        keys = (2,)
        first = [1, 5, 1, 3, 3, 0, 201, 2] + [0] * 11
        second = [0] * 19
        memory = memory_of(first, second, versions=(5, 0))
        new = (6, 1, 3, 3, 0, 217, ((3, 3, 1),))
        self.assertEqual(update(memory, keys, 2, new, [[]]), ("laid", 0, 1, 0))
        book = [1, 0, 0, 0, 5, 14, 2, 0, 1, 2, 9, 22]
        self.assertEqual(memory.cells(), [5, 0, 0, 0, *book, *first, 1, 6, 1, 3, 3, 0, 217, 2] + [0] * 11)
        # The piece, five numbers of the head (a 0 is there already), the mark, the noting.
        self.assertEqual(memory.writes(), 1 + 5 + 1 + 7)

    def test_without_a_record(self):
        for book in (NO_PAGE + NO_PAGE, [None] * 12, page(0, 1, 1, 3) + [7, 1, 1, 3, 1, 1]):
            memory = memory_of(laid(5, OLD, 1), NO_SLOT, book=book)
            self.assertEqual(update(memory, KEYS, 3, manifest(8, NEW, 2), STORES), ("laid", 0, 1, 2))
            self.assertEqual(memory.cells()[4:10], page(1, 0, 1, 3))
            self.assertEqual(memory.cells()[10:16], book[6:])
            self.assertEqual(memory.cells()[16:35], laid(5, OLD, 1))
            self.assertEqual(memory.cells()[35:54], laid(8, NEW, 2))

    def test_the_mark_is_written_0_if_it_is_not(self):
        for mark in (1, 2, 9972, None):
            other = [mark, *NO_SLOT[1:]]
            filling = list(enumerate(NEW))
            self.laying(lambda: self.memory(other=other), ("laid", 0, 1, 2), filling, marked=True)

    def test_on_trial(self):
        for trusted, tries in itertools.product((0, 1), (0, 1, 3)):
            for other, marked in ((NO_SLOT, False), (laid(7, ELDER, 0), True)):
                with self.subTest((trusted, tries, marked)):
                    self.laying(
                        lambda: self.memory(trusted, 1, tries, other), ("laid", 0, 1, 2), list(enumerate(NEW)),
                        state=1, marked=marked,
                    )

    def test_a_piece_that_is_there_already(self):
        for kept in itertools.product((False, True), repeat=3):
            cells = [None] * 8
            for at, there in zip((0, 3, 6), kept):
                cells[at:at + 3] = NEW[at:at + 3] if there else cells[at:at + 3]
            other = [*NO_SLOT[:7], *cells, None, 0, 9, 9]
            filling = [(at, worth) for at, worth in enumerate(NEW) if cells[at] is None]
            told = ("laid", sum(kept), 0 if kept[0] else 1, 2 - sum(kept[1:]))
            with self.subTest(kept):
                self.laying(lambda: self.memory(other=other), told, filling)

    def test_a_piece_that_is_there_needs_no_store(self):
        other = [*NO_SLOT[:7], *NEW, 0, 0, 0, 0]
        self.laying(lambda: self.memory(other=other), ("laid", 3, 0, 0), [], stores=[[]])

    def test_a_piece_that_is_there_counts_by_its_name(self):
        new = manifest(8, TWINS[0] + (1,), 0)
        self.assertEqual(title(TWINS[0]), title(TWINS[1]))
        other = [*NO_SLOT[:7], *TWINS[1], 1, *[0] * 8]
        self.laying(lambda: self.memory(other=other), ("laid", 2, 0, 0), [], new, [[]])

    def test_a_piece_at_other_cells_is_not_there(self):
        # The slot has each of the pieces, but not at its own cells.
        other = [*NO_SLOT[:7], 1, 2, 3, 17, 3, 8, 66, 55, *[0] * 4]
        told = ("laid", 0, 1, 2)
        self.laying(lambda: self.memory(other=other), told, list(enumerate(NEW)))

    def test_cells_that_are_there_already_are_not_written(self):
        other = [*NO_SLOT[:7], 17, 4, 8, None, 2, 3, 55, 65, *[0] * 4]
        self.laying(lambda: self.memory(other=other), ("laid", 0, 1, 2), [(1, 3), (3, 1), (7, 66)])

    def test_a_head_that_is_there_already_is_not_written(self):
        right = head(8, NEW, 2)
        for spoilt in ({}, {0: None}, {2: 1, 5: None}, {at: 9 for at in range(6)}):
            row = [spoilt.get(at, worth) for at, worth in enumerate(right)]
            other = [0, *row, *NEW, 0, 0, 0, 0]
            self.laying(lambda: self.memory(other=other), ("laid", 3, 0, 0), [])
            self.laying(lambda: self.memory(other=[1] + other[1:]), ("laid", 3, 0, 0), [], marked=True)

    def test_pieces_that_the_trusted_picture_has(self):
        for new, copied in (
            (OLD, 3),
            (OLD[3:6] + OLD[:3] + OLD[6:], 3),
            (OLD[3:6] * 4, 4),
            (OLD[3:6] + OLD[3:6] + OLD[6:], 3),
            (OLD[6:], 1),
            (OLD[:3], 1),
        ):
            cells = list(enumerate(new))
            filling = [(at, worth) for at, worth in cells if worth]
            self.laying(self.memory, ("laid", 0, copied, 0), filling, manifest(8, new, 2), [[]])

    def test_only_whole_pieces_of_the_trusted_picture_count(self):
        # Cells 1 to 3 stand side by side in the old picture, but are none of its pieces; nor is a part of one.
        for new in (OLD[1:4], OLD[:2], OLD[:1], OLD[6:] + (0,), OLD[6:] + (0, 0)):
            memory = self.memory()
            self.assertEqual(update(memory, KEYS, 3, manifest(8, new, 2), [[]]), ("lacks", 0))
            filling = [(at, worth) for at, worth in enumerate(new) if worth]
            self.laying(self.memory, ("laid", 0, 0, 1), filling, manifest(8, new, 2), [store(new)])

    def test_the_trusted_picture_ahead_of_the_stores(self):
        twin = [[(title(TWINS[0]), TWINS[1])]]
        for first, other in (TWINS, TWINS[::-1]):
            new = manifest(8, first, 0)
            make = lambda: self.memory(kept=laid(5, (7,) * 3 + first, 1))
            self.laying(make, ("laid", 0, 1, 0), list(enumerate(first)), new, twin)

    def test_of_several_pieces_with_one_name_the_last_one(self):
        one, two = TWINS
        for cells in ((one, two), (two, one), (one, one, two), (two, (1, 2, 3), one), (one, two, two, one)):
            kept = laid(5, sum(cells, ()), 1)
            last = cells[-1]
            new = manifest(8, one + one, 0)
            make = lambda: self.memory(kept=kept)
            self.laying(make, ("laid", 0, 2, 0), list(enumerate(last + last)), new, [store(one), store(two)])

    def test_what_lies_behind_the_trusted_picture_is_none_of_it(self):
        kept = laid(5, OLD[:6], 1)[:13] + [1, 2, 3, 55, 66, 0]
        self.laying(lambda: self.memory(kept=kept), ("laid", 0, 1, 2), list(enumerate(NEW)))
        self.assertEqual(update(self.memory(kept=kept), KEYS, 3, manifest(8, NEW, 2), [[]]), ("lacks", 1))

    def test_pieces_from_several_stores(self):
        first, second, third = [(title(piece), piece) for piece in pieces(NEW)]
        spoilt = (second[0], (1, 2, 4))
        for stores in (
            [[first, second, third]],
            [[third], [second], [first]],
            [[spoilt], [], [spoilt, second], [third, third]],
            [[spoilt, second, spoilt], [(title((1,)), (2,)), third]],
        ):
            self.laying(self.memory, ("laid", 0, 1, 2), list(enumerate(NEW)), stores=stores)

    def test_the_piece_that_is_fetched_is_the_first_good_one(self):
        new = manifest(8, TWINS[0], 0)
        for first, other in (TWINS, TWINS[::-1]):
            stores = [[(title(first), (1, 2, 3))], [(title(first), first)], [(title(other), other)]]
            self.laying(self.memory, ("laid", 0, 0, 1), list(enumerate(first)), new, stores)

    def test_pictures_of_all_lengths(self):
        for length in range(1, 13):
            cells = tuple(range(1, length + 1))
            new = manifest(999, cells, length % 4)
            told = ("laid", 0, 0, (length + 2) // 3)
            self.laying(self.memory, told, list(enumerate(cells)), new, [store(cells)])

    def test_lacking(self):
        """What was laid stays, the mark is away, and the head and the record are not come to."""
        first, second, third = [[(title(piece), piece)] for piece in pieces(NEW)]
        for state, stores, number, many in (
            (0, [[]], 1, 3),
            (0, [first, third], 1, 3),
            (0, [second], 2, 6),
            (1, [second, [(title((55, 66)), (55, 67))]], 2, 6),
            (1, [[(title((1, 2, 3)), (1, 2))], [], [], third], 1, 3),
        ):
            make = lambda: self.memory(state=state, tries=2 * state, other=laid(7, ELDER, 0))
            memory = make()
            cells = memory.cells()
            self.assertEqual(update(memory, KEYS, 3, manifest(8, NEW, 2), stores), ("lacks", number))
            wanted = noting(1, 2, 0, 0, 0) if state == 1 else []
            wanted += [(35, 0), *enumerate(NEW[:many], start=42)]
            for place, worth in wanted:
                cells[place] = worth
            self.assertEqual(memory.cells(), cells)
            self.assertEqual(memory.writes(), len(wanted))
            self.assertEqual(traced(make, update, KEYS, 3, manifest(8, NEW, 2), stores), wanted)
            self.assertEqual(record(memory, 4), (0, 0, 0))
            self.assertEqual(judged(memory, KEYS, 1), ("none",))
            # Behind it the same update goes on from what lies there.
            self.assertEqual(update(memory, KEYS, 3, manifest(8, NEW, 2), STORES), ("laid", number, 0, 3 - number))

    def test_a_first_piece_that_lacks(self):
        memory = self.memory()
        self.assertEqual(update(memory, KEYS, 3, manifest(8, (1, 2, 3), 2), STORES[:0] + [[]]), ("lacks", 0))
        self.assertEqual(memory.writes(), 0)

    def test_other_tries(self):
        # The document bounds a machine's tries; here they are a number for a cell.
        for tries in (0, 4, 9972):
            self.laying(self.memory, ("laid", 0, 1, 2), list(enumerate(NEW)), tries=tries)
        memory = self.memory()
        for tries in (-1, 9973, FAR, -FAR):
            self.refused(BadWorth, update, memory, KEYS, tries, manifest(8, NEW, 2), STORES)
        self.assertEqual((memory.cells(), memory.writes()), (self.memory().cells(), 0))


class Refused(Refusals):
    """Ahead of all writing, what was handed in first is refused first."""

    def test_manifests_and_stores(self):
        good = manifest(8, NEW, 2)
        memory = memory_of(laid(5, OLD, 1), laid(7, ELDER, 0), book=page(1, 0, 1, 2))
        before = memory.cells()
        for _ in range(2):
            for at, part, word in (
                (0, 0, "version"), (1, 0, "length"), (1, 7, "names"), (2, good[3], "sums"), (4, 4, "key"),
                (5, -1, "seal"),
            ):
                bad = (*good[:at], part, *good[at + 1:])
                for stores in (STORES, [], [[((1, 2), (1,))]]):
                    told = self.refused(BadManifest, update, memory, KEYS, 3, bad, stores)
                    self.assertEqual(told.word, word)
            for stores, number in (([], 0), ([[]] * 5, 4), ([[], [((1, 2, 3), ())]], 1)):
                self.assertEqual(self.refused(BadStores, update, memory, KEYS, 3, good, stores).number, number)
            self.refused(BadWorth, update, memory, KEYS, 9973, (0, *good[1:]), [])
            # The same is refused while power is away.
            self.assertEqual((memory.cells(), memory.writes()), (before, 0))
            memory = without_power(memory)
        self.refused(Stopped, update, memory, KEYS, 3, good, STORES)
        self.assertEqual((memory.cells(), memory.writes()), (before, 0))

    def test_a_memory_that_is_too_small(self):
        for size in (1, 34, 53):
            memory = Memory(size)
            for place, worth in enumerate([0, 0, 0, 0, *page(1, 0, 0, 0), *NO_PAGE, *laid(5, OLD, 1)][:size]):
                memory.spoil(place, worth)
            before = memory.cells()
            self.refused(BadPlace, update, memory, KEYS, -1, manifest(8, NEW, 2), [])
            self.refused(BadPlace, update, memory, KEYS, 3, manifest(8, NEW, 2), STORES)
            self.assertEqual((memory.cells(), memory.writes()), (before, 0))

    def test_a_larger_memory(self):
        memory = Memory(60)
        for place, worth in enumerate([0, 0, 0, 0, *page(1, 0, 0, 0), *NO_PAGE, *laid(5, OLD, 1)]):
            memory.spoil(place, worth)
        self.assertEqual(update(memory, KEYS, 3, manifest(8, NEW, 2), STORES), ("laid", 0, 1, 2))
        self.assertEqual(memory.cells()[35:], laid(8, NEW, 2) + [0] * 6)


class Cuts(Refusals):
    """Wherever power goes, the same update that is asked again comes to the same."""

    def test_each_write(self):
        new = manifest(8, NEW, 2)
        for trusted, state in itertools.product((0, 1), (0, 1)):
            slots = [laid(7, ELDER, 0)] * 2
            slots[trusted] = laid(5, OLD, 1)
            make = lambda: memory_of(*slots, book=page(1, trusted, state, 2 * state))
            writes = traced(make, update, KEYS, 3, new, STORES)
            self.assertEqual(len(writes), 1 + 8 + 6 + 1 + 7 + 7 * state)
            for many, torn in itertools.product(range(len(writes)), HOW):
                memory = make()
                self.assertTrue(stopped(memory, many, torn, update, KEYS, 3, new, STORES))
                self.between(memory, trusted, state, many == len(writes) - 1 and torn == "new")
                told = update(memory, KEYS, 3, new, STORES)
                self.assertEqual((told[0], sum(told[1:])), ("laid", 3))
                self.assertEqual(record(memory, 4), (trusted, 1, 3))
                slots_behind = [memory.cells()[16:35], memory.cells()[35:54]]
                self.assertEqual(slots_behind[trusted], laid(5, OLD, 1))
                self.assertEqual(slots_behind[1 - trusted], laid(8, NEW, 2)[:15] + [9] * 4)

    def between(self, memory, trusted, state, is_over):
        """What there is behind a cut: the trusted picture, and a record of before or behind."""
        self.assertEqual(judged(memory, KEYS, trusted), ("good", 5))
        self.assertIn(judged(memory, KEYS, 1 - trusted), (("none",), ("good", 7), ("good", 8)))
        told = record(memory, 4)
        if is_over:
            self.assertEqual(told, (trusted, 1, 3))
        else:
            self.assertIn(told, ((trusted, 0, 0), (trusted, state, 2 * state)))
        if judged(memory, KEYS, 1 - trusted) == ("none",):
            # What is half laid is never on trial.
            self.assertEqual(told, (trusted, 0, 0))

    def test_it_goes_on_from_what_lies_there(self):
        make = lambda: memory_of(laid(5, OLD, 1), NO_SLOT)
        told = []
        for many in range(8):
            memory = make()
            self.assertTrue(stopped(memory, many, "old", update, KEYS, 3, manifest(8, NEW, 2), STORES))
            told.append(update(memory, KEYS, 3, manifest(8, NEW, 2), STORES)[1:])
        self.assertEqual(told, [(0, 1, 2)] * 3 + [(1, 0, 2)] * 3 + [(2, 0, 1)] * 2)
        memory = make()
        self.assertTrue(stopped(memory, 8, "old", update, KEYS, 3, manifest(8, NEW, 2), STORES))
        self.assertEqual(update(memory, KEYS, 3, manifest(8, NEW, 2), [[]]), ("laid", 3, 0, 0))

    def test_it_is_laid_anew_when_it_is_asked_again(self):
        memory = memory_of(laid(5, OLD, 1), NO_SLOT)
        update(memory, KEYS, 3, manifest(8, NEW, 2), STORES)
        self.assertEqual(update(memory, KEYS, 1, manifest(8, NEW, 2), [[]]), ("laid", 3, 0, 0))
        self.assertEqual(record(memory, 4), (0, 1, 1))
        # 22 writes of the first update; behind it a noting, the mark twice, and another noting.
        self.assertEqual(memory.writes(), 22 + 7 + 1 + 1 + 7)
