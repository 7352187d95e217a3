"""Point 12 of the document: what may not come in, and why."""

import itertools

from helping import Refusals
from laying import KEYS, head, laid, manifest, memory_of, page, sealed, store

from twoimages.mending import update

OLD = (4, 0, 9972)
NEW = (17, 3, 8, 1)
OTHER = laid(7, (9, 9), 0)


class ComingIn(Refusals):
    def told(self, new, kept=laid(5, OLD, 1), trusted=0, state=0, keys=KEYS, **floors):
        """What an update tells; if it isn't laid, nothing is written. Its stores have all it needs."""
        slots = [OTHER, OTHER]
        slots[trusted] = kept
        memory = memory_of(*slots, book=page(1, trusted, state, state), **floors)
        before = memory.cells()
        told = update(memory, keys, 3, new, [store(NEW)])
        if told[0] != "laid":
            self.assertEqual(len(told), 1)
            self.assertEqual((memory.cells(), memory.writes()), (before, 0))
            self.assertEqual(update(memory, keys, 3, new, [store(NEW)]), told)
        return told[0]

    def test_hurt(self):
        """For each reason for which the trusted picture may not be good."""
        good = manifest(8, NEW, 2)
        right = laid(5, OLD, 1)
        for why, kept, floors in (
            ("none", [0] * 19, {}),
            ("none", [2] + right[1:], {}),
            ("none", right[:6] + [None] + right[7:], {}),
            ("length", right[:2] + [0] + right[3:], {}),
            ("sum", right[:8] + [1] + right[9:], {}),
            ("sum", right[:8] + [None] + right[9:], {}),
            ("key", right, {"key_floor": (2, 0)}),
            ("seal", right[:6] + [right[6] + 1] + right[7:], {}),
            ("old", right, {"versions": (0, 6)}),
        ):
            for trusted, state in itertools.product((0, 1), (0, 1)):
                with self.subTest((why, trusted, state)):
                    self.assertEqual(self.told(good, kept, trusted, state, **floors), "hurt")
        self.assertEqual(self.told(good), "laid")

    def test_the_other_slot_need_not_be_good(self):
        for trusted in (0, 1):
            slots = [[None] * 19, [None] * 19]
            slots[trusted] = laid(5, OLD, 1)
            memory = memory_of(*slots, book=page(1, trusted, 0, 0))
            self.assertEqual(update(memory, KEYS, 3, manifest(8, NEW, 2), [store(NEW)])[0], "laid")

    def test_key(self):
        for number, many in itertools.product(range(4), range(1, 5)):
            right = "laid" if number < many else "key"
            kept = laid(5, OLD, 0)
            self.assertEqual(self.told(manifest(8, NEW, number), kept, keys=KEYS[:many]), right)
        for number, floor in itertools.product(range(4), range(4)):
            right = "laid" if number >= floor else "key"
            for key_floor in ((floor, 0), (0, floor), (floor, None), (None, floor)):
                new = manifest(8, NEW, number)
                self.assertEqual(self.told(new, laid(5, OLD, 3), key_floor=key_floor), right)
        self.assertEqual(self.told(manifest(8, NEW, 0), key_floor=(None, None)), "laid")

    def test_a_key_less_than_that_of_the_trusted_picture(self):
        self.assertEqual(self.told(manifest(8, NEW, 0), laid(5, OLD, 3)), "laid")
        self.assertEqual(self.told(manifest(8, NEW, 0), laid(5, OLD, 3), key_floor=(0, 1)), "key")

    def test_seal(self):
        new = manifest(8, NEW, 2)
        for at, worth in ((0, 9), (4, 1), (5, (new[5] + 1) % 9973), (5, 0)):
            self.assertEqual(self.told((*new[:at], worth, *new[at + 1:])), "seal")
        for keys in ((5, 9972, 1235, 77), (5, 9972, 77, 1234)):
            self.assertEqual(self.told(new, keys=keys), "seal")
        self.assertEqual(self.told(new, keys=(5, 9972, 1234, 78)), "laid")
        # The seal of another picture of these keys.
        self.assertEqual(self.told((*new[:5], head(9, NEW, 2)[5], new[6])), "seal")

    def test_the_seal_is_of_all_five_numbers(self):
        new = manifest(8, NEW, 2)
        for at in range(5):
            five = list(new[:5])
            five[at] += 1
            other = sealed(KEYS[2], five)[5]
            self.assertEqual(self.told((*new[:5], other, new[6])), "seal")

    def test_old(self):
        for version in (1, 4, 5, 6, 7, 998, 999):
            for floor in (0, 1, 5):
                right = "laid" if version > 5 else "old"
                self.assertEqual(self.told(manifest(version, NEW, 2), versions=(floor, 0)), right)
        self.assertEqual(self.told(manifest(999, NEW, 2), laid(998, OLD, 1), versions=(998, 998)), "laid")
        self.assertEqual(self.told(manifest(999, NEW, 2), laid(999, OLD, 1)), "old")

    def test_the_version_of_the_other_slot_does_not_count(self):
        # It has version 7.
        self.assertEqual([self.told(manifest(version, NEW, 2)) for version in (6, 7, 8)], ["laid"] * 3)

    def test_a_floor_that_is_broken(self):
        for versions in ((None, 0), (0, None), (None, None), (None, 5), (5, None)):
            self.assertEqual(self.told(manifest(6, NEW, 2), versions=versions), "laid")
            self.assertEqual(self.told(manifest(5, NEW, 2), versions=versions), "old")

    def test_of_several_the_first_is_told(self):
        words = ("hurt", "key", "seal", "old")
        for faults in itertools.product((False, True), repeat=4):
            hurt, key, seal, old = faults
            kept = laid(5, OLD, 3)
            kept[0] = 0 if hurt else 1
            new = manifest(5 if old else 6, NEW, 1 if key else 2)
            new = (*new[:5], (new[5] + 1) % 9973 if seal else new[5], new[6])
            first = [word for word, fault in zip(words, faults) if fault][:1] or ["laid"]
            for state in (0, 1):
                with self.subTest((faults, state)):
                    self.assertEqual(self.told(new, kept, state=state, key_floor=(2, 0)), first[0])

    def test_what_lacks_comes_behind_all_reasons(self):
        memory = memory_of(laid(5, OLD, 1), OTHER)
        self.assertEqual(update(memory, KEYS, 3, manifest(5, NEW, 2), [[]]), ("old",))
        self.assertEqual(memory.writes(), 0)
