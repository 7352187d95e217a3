"""Point 10 of the document: manifests, and the keys and pictures that they are made of."""

import itertools
import unittest

from helping import FAR, Refusals

from twoimages.errors import BadKeys, BadManifest, BadPicture
from twoimages.manifests import check_manifest, manifest_of
from twoimages.sums import joined, name, seal, sums

KEYS = (5, 9972, 1234, 77)
GOOD = (7, (1, 2, 3, 4, 5), 2)
NO_VERSIONS = (0, 1000, -1, 1001, -999, FAR, -FAR)
NO_CELLS = ((), (0,) * 13, (0,) * 14, (1,) * 400, (-1,), (9973,), (1, 2, -1), (9973, 1, 1), (0,) * 11 + (FAR,))
NO_KEY_NUMBERS = (-1, 4, 5, -4, FAR, -FAR)
NO_KEYS = ((), (1, 2, 3, 4, 5), (1,) * 9, (0,), (9973,), (1, 0), (1, 2, 3, 9973), (-1, 1), (FAR,), (1, -FAR))
WORDS = ("version", "length", "names", "sums", "key", "seal")


def row_of(many):
    return tuple((at * 3331 + many * 17) % 9973 for at in range(many))


class Manifests(unittest.TestCase):
    def test_worked_out_by_hand(self):
        # The seal of key 2: 2*2+5+1, 10*2+3+1, 24*2+9+1, 58*2+16+1, 133*2+0+1.
        self.assertEqual(manifest_of((2,), (5, (1, 2, 3), 0)), (5, 3, 9, 16, 0, 267, ((9, 16, 3),)))
        # Key 1 and one cell: 1+1+1, 3+1+1, 5+1+1, 7+1+1, 9+1+1.
        self.assertEqual(manifest_of((9, 1), (1, (0,), 1)), (1, 1, 1, 1, 1, 11, ((1, 1, 1),)))

    def test_pictures_of_all_lengths_with_each_key(self):
        for many, number, version in itertools.product(range(1, 13), range(4), (1, 500, 999)):
            with self.subTest((many, number, version)):
                cells = row_of(many)
                one, two = sums(cells)
                names = tuple(name(cells[at:at + 3]) for at in range(0, many, 3))
                told = manifest_of(KEYS, (version, cells, number))
                sealed = seal(KEYS[number], [version, many, one, two, number])
                self.assertEqual(told, (version, many, one, two, number, sealed, names))
                self.assertEqual(joined(names), (one, two))
                self.assertIsNone(check_manifest(told))

    def test_how_many_cells_its_pieces_have(self):
        for many, counts in (
            (1, [1]), (2, [2]), (3, [3]), (4, [3, 1]), (5, [3, 2]), (6, [3, 3]), (7, [3, 3, 1]), (8, [3, 3, 2]),
            (9, [3, 3, 3]), (10, [3, 3, 3, 1]), (11, [3, 3, 3, 2]), (12, [3, 3, 3, 3]),
        ):
            names = manifest_of(KEYS, (7, row_of(many), 0))[6]
            self.assertEqual([title[2] for title in names], counts)

    def test_kinds(self):
        told = manifest_of(KEYS, GOOD)
        self.assertIsInstance(told, tuple)
        self.assertEqual(len(told), 7)
        self.assertIsInstance(told[6], tuple)
        for title in told[6]:
            self.assertIsInstance(title, tuple)

    def test_numbers_at_the_bounds(self):
        for keys, picture in (
            ((1,), (1, (0,), 0)),
            ((9972,), (999, (9972,) * 12, 0)),
            ((1, 9972), (1, (9972, 0), 1)),
            ((9972, 1, 1, 9972), (999, (0,) * 12, 3)),
        ):
            told = manifest_of(keys, picture)
            self.assertEqual((told[0], told[1], told[4]), (picture[0], len(picture[1]), picture[2]))
            self.assertIsNone(check_manifest(told))

    def test_the_same_is_told_again_and_nothing_is_kept(self):
        keys = [5, 9972, 1234]
        cells = [1, 2, 3, 4, 5]
        told = manifest_of(keys, (7, cells, 2))
        self.assertEqual(told, manifest_of(KEYS, GOOD))
        self.assertEqual((keys, cells), ([5, 9972, 1234], [1, 2, 3, 4, 5]))
        cells[0] = 9
        keys[2] = 9
        self.assertEqual(told, manifest_of(KEYS, GOOD))
        self.assertNotEqual(told, manifest_of(keys, (7, cells, 2)))


class RefusedPictures(Refusals):
    def word(self, keys, *picture):
        return self.refused(BadPicture, manifest_of, keys, picture).word

    def test_keys(self):
        for keys in NO_KEYS:
            with self.subTest(keys):
                self.refused(BadKeys, manifest_of, keys, GOOD)
                self.refused(BadKeys, manifest_of, keys, (7, (1, 2), 0))

    def test_keys_are_refused_first(self):
        for keys in NO_KEYS:
            self.refused(BadKeys, manifest_of, keys, (0, (), -1))
            self.refused(BadKeys, manifest_of, keys, (1, (), 0))

    def test_version(self):
        for version in NO_VERSIONS:
            self.assertEqual(self.word(KEYS, version, (1, 2), 0), "version")

    def test_cells(self):
        for cells in NO_CELLS:
            self.assertEqual(self.word(KEYS, 7, cells, 0), "cells")
        for at in range(12):
            for worth in (-1, 9973):
                cells = [5] * 12
                cells[at] = worth
                self.assertEqual(self.word(KEYS, 7, tuple(cells), 0), "cells")

    def test_key(self):
        for number in NO_KEY_NUMBERS:
            self.assertEqual(self.word(KEYS, 7, (1, 2), number), "key")
        for many in range(1, 4):
            self.assertEqual(self.word(KEYS[:many], 7, (1, 2), many), "key")
            self.assertEqual(self.word(KEYS[:many], 7, (1, 2), -1), "key")

    def test_of_several_the_first_is_told(self):
        for version, cells, number in itertools.product(NO_VERSIONS, NO_CELLS, NO_KEY_NUMBERS):
            self.assertEqual(self.word(KEYS, version, cells, number), "version")
            self.assertEqual(self.word(KEYS, version, (1,), number), "version")
            self.assertEqual(self.word(KEYS, version, cells, 0), "version")
            self.assertEqual(self.word(KEYS, 7, cells, number), "cells")


class RefusedManifests(Refusals):
    """Whatever takes a manifest asks for this."""

    def word(self, manifest, **parts):
        """The word of the refusal of a manifest with some parts replaced."""
        names = ("version", "length", "one", "two", "key", "seal", "names")
        changed = tuple(parts.get(part, worth) for part, worth in zip(names, manifest))
        return self.refused(BadManifest, check_manifest, changed).word

    def setUp(self):
        self.good = manifest_of(KEYS, GOOD)

    def test_what_can_be(self):
        self.assertIsNone(check_manifest(self.good))
        version, length, one, two, number, sealed, names = self.good
        for other in (1, 999):
            self.assertIsNone(check_manifest((other, length, one, two, number, sealed, names)))
        for other in range(4):
            self.assertIsNone(check_manifest((version, length, one, two, other, sealed, names)))
        for other in (0, 1, 9972):
            self.assertIsNone(check_manifest((version, length, one, two, number, other, names)))
        self.assertIsNone(check_manifest((1, 1, 0, 9972, 0, 0, ((0, 9972, 1),))))
        self.assertIsNone(check_manifest((1, 3, 9972, 0, 0, 0, ((9972, 0, 3),))))

    def test_version(self):
        for version in NO_VERSIONS:
            self.assertEqual(self.word(self.good, version=version), "version")

    def test_length(self):
        for length in (0, 13, -1, 14, -5, FAR, -FAR):
            self.assertEqual(self.word(self.good, length=length), "length")
        self.assertEqual(self.word(self.good, length=0, names=()), "length")
        thirteen = tuple(name((0,) * many) for many in (3, 3, 3, 3, 1))
        one, two = joined(thirteen)
        self.assertEqual(self.word(self.good, length=13, one=one, two=two, names=thirteen), "length")

    def test_counts_of_cells(self):
        for length in (1, 2, 3, 4, 6, 7, 8, 12):
            self.assertEqual(self.word(self.good, length=length), "names")
        for counts in (
            (), (3,), (2,), (3, 1), (3, 3), (2, 3), (1, 4), (4, 1), (5,), (3, 2, 0), (3, 1, 1), (3, -2), (0, 5),
        ):
            names = tuple((1, 1, many) for many in counts)
            one, two = joined(names)
            self.assertEqual(self.word(self.good, one=one, two=two, names=names), "names", counts)

    def test_sums_of_a_name(self):
        first, second = self.good[6]
        for at, worth in itertools.product((0, 1), (-1, 9973, FAR, -FAR)):
            for which in (0, 1):
                names = [list(first), list(second)]
                names[which][at] = worth
                names = tuple(tuple(title) for title in names)
                one, two = joined(names)
                self.assertEqual(self.word(self.good, names=names), "names")
                self.assertEqual(self.word(self.good, one=one, two=two, names=names), "names")

    def test_sums(self):
        _, _, one, two, _, _, names = self.good
        for other in (
            (one + 1, two), (one, two + 1), (two, one), (one + 9973, two), (one, two - 9973), (0, 0), (-1, two),
        ):
            self.assertEqual(self.word(self.good, one=other[0], two=other[1]), "sums")
        self.assertEqual(self.word(self.good, names=((1, 1, 3), names[1])), "sums")
        self.assertEqual(self.word(self.good, names=(names[0], (1, 1, 2))), "sums")

    def test_key(self):
        for number in NO_KEY_NUMBERS:
            self.assertEqual(self.word(self.good, key=number), "key")

    def test_seal(self):
        for sealed in (-1, 9973, 9974, -9972, FAR, -FAR):
            self.assertEqual(self.word(self.good, seal=sealed), "seal")

    def test_of_several_the_first_is_told(self):
        for faults in itertools.product((False, True), repeat=6):
            if not any(faults):
                continue
            version, length, names, other_sums, key, sealed = faults
            parts = {"version": 0} if version else {}
            parts.update({"length": 13} if length else {})
            parts.update({"names": ((1, 1, 3), (1, 9973, 2))} if names else {})
            parts.update({"one": 5555} if other_sums else {})
            parts.update({"key": 4} if key else {})
            parts.update({"seal": 9973} if sealed else {})
            first = [word for word, fault in zip(WORDS, faults) if fault][0]
            self.assertEqual(self.word(self.good, **parts), first)


if __name__ == "__main__":
    unittest.main()
