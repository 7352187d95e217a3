"""Point 11 of the document: stores, and what is fetched from them."""

import itertools
import unittest

from helping import FAR, Refusals

from twoimages.errors import BadStores
from twoimages.manifests import check_stores, fetched
from twoimages.sums import name

PIECE = (1, 2, 3)
TITLE = (9, 16, 3)
GOOD = (TITLE, PIECE)
# Pieces that stand under a name which isn't theirs.
SPOILT = (TITLE, (1, 2, 4))
SHORT = (TITLE, (1, 2))
OTHER = ((1, 1, 1), (0,))
MISNAMED = ((1, 1, 1), PIECE)
BAD_ENTRIES = (
    ((), PIECE),
    ((9,), PIECE),
    ((9, 16), PIECE),
    ((9, 16, 3, 3), PIECE),
    ((9, 16, None), PIECE),
    ((-1, 16, 3), PIECE),
    ((9973, 16, 3), PIECE),
    ((9, -1, 3), PIECE),
    ((9, 9973, 3), PIECE),
    ((9, 16, -1), PIECE),
    ((9, 16, FAR), PIECE),
    (TITLE, ()),
    (TITLE, (1, 2, 3, 4)),
    (TITLE, (1,) * 12),
    (TITLE, (-1,)),
    (TITLE, (9973, 0, 0)),
    (TITLE, (0, 9973, 0)),
    (TITLE, (0, 0, FAR)),
    (TITLE, (-FAR, 0)),
    (TITLE, (1, None, 3)),
)


class Fetching(unittest.TestCase):
    def told(self, stores, piece, looks, title=TITLE):
        for _ in range(2):
            answer = fetched(stores, title)
            self.assertEqual(answer, (piece, looks))
            self.assertIsInstance(answer, tuple)

    def test_from_one_store(self):
        self.assertEqual(name(PIECE), TITLE)
        self.told([[GOOD]], PIECE, 1)
        self.told([[OTHER, GOOD, OTHER]], PIECE, 1)
        self.told([[]], None, 0)
        self.told([[OTHER]], None, 0)
        self.told([[SPOILT]], None, 1)
        self.told([[SPOILT, SHORT]], None, 2)
        self.told([[SPOILT, SHORT, OTHER, GOOD, SPOILT]], PIECE, 3)

    def test_from_several_stores_in_order(self):
        self.told([[OTHER], [GOOD]], PIECE, 1)
        self.told([[SPOILT], [GOOD]], PIECE, 2)
        self.told([[GOOD], [SPOILT]], PIECE, 1)
        self.told([[SPOILT, SPOILT], [], [OTHER, SHORT], [OTHER, GOOD]], PIECE, 4)
        self.told([[SPOILT], [SPOILT], [SPOILT], [SPOILT]], None, 4)
        self.told([[], [], [], []], None, 0)

    def test_wherever_the_good_one_is(self):
        for at in range(4):
            stores = [[OTHER, SPOILT, OTHER] for _ in range(4)]
            stores[at].append(GOOD)
            self.told(stores, PIECE, at + 2)
            stores[at].insert(0, GOOD)
            self.told(stores, PIECE, at + 1)

    def test_every_two_stores(self):
        entries = (GOOD, SPOILT, OTHER)
        for first, second in itertools.product(itertools.product(entries, repeat=2), repeat=2):
            looks = 0
            piece = None
            for entry in first + second:
                if piece is None and entry != OTHER:
                    looks += 1
                    piece = PIECE if entry == GOOD else None
            self.told([list(first), list(second)], piece, looks)

    def test_told_more_than_once(self):
        self.told([[GOOD, GOOD], [GOOD]], PIECE, 1)
        self.told([[SPOILT, SPOILT, GOOD, GOOD]], PIECE, 3)

    def test_the_first_of_two_pieces_with_one_name(self):
        one = (10, 10, 10)
        other = (11, 8, 11)
        self.assertEqual(name(one), name(other))
        self.told([[(name(one), other), (name(one), one)]], other, 1, name(one))
        self.told([[(name(one), one)], [(name(one), other)]], one, 1, name(one))

    def test_a_piece_under_another_name_is_not_looked_at(self):
        self.told([[MISNAMED]], None, 0)
        self.told([[MISNAMED, GOOD]], PIECE, 1)
        self.told([[MISNAMED]], None, 1, (1, 1, 1))

    def test_names_that_are_alike_but_for_one_number(self):
        alike = [(other, PIECE) for other in ((9, 16, 2), (9, 15, 3), (8, 16, 3), (9, 16, 4), (9, 16, 0))]
        self.told([alike], None, 0)
        self.told([alike, [GOOD]], PIECE, 1)

    def test_pieces_with_the_same_sums_and_another_length(self):
        one = (9972,)
        two = (9972, 9972)
        self.assertEqual(name(one)[:2], name(two)[:2])
        self.told([[(name(two), one), (name(two), two)]], two, 2, name(two))
        self.told([[(name(one), two)]], None, 1, name(one))

    def test_pieces_of_all_lengths(self):
        for piece in ((0,), (9972,), (5, 6), (0, 0, 0), (9972, 9972, 9972)):
            self.told([[OTHER], [(name(piece), piece)]], piece, 1, name(piece))

    def test_the_most_that_stores_have(self):
        full = [SPOILT] * 39
        self.told([full + [SPOILT], full + [SPOILT], full + [SPOILT], full + [GOOD]], PIECE, 160)
        self.told([[SPOILT] * 40] * 4, None, 160)
        self.told([[OTHER] * 39 + [GOOD]], PIECE, 1)


class RefusedStores(Refusals):
    def number(self, stores):
        told = self.refused(BadStores, fetched, stores, TITLE).number
        self.assertEqual(self.refused(BadStores, fetched, stores, (0, 0, 1)).number, told)
        self.assertEqual(self.refused(BadStores, check_stores, stores).number, told)
        return told

    def test_none_at_all(self):
        self.assertEqual(self.number([]), 0)

    def test_a_fifth_one(self):
        for store in ([], [GOOD], [OTHER]):
            self.assertEqual(self.number([store] * 5), 4)
            self.assertEqual(self.number([store] * 6), 4)
            self.assertEqual(self.number([store] * 40), 4)
        self.assertEqual(self.number([[GOOD]] * 4 + [[(TITLE, ())]]), 4)

    def test_more_than_forty(self):
        for many in (41, 42, 400):
            for at in range(4):
                stores = [[GOOD] * 40] * at + [[GOOD] * many] + [[]] * (3 - at)
                self.assertEqual(self.number(stores), at)

    def test_names_pieces_and_numbers_that_can_not_be(self):
        for entry, at, place in itertools.product(BAD_ENTRIES, range(4), range(3)):
            with self.subTest((entry, at, place)):
                stores = [[GOOD, OTHER] for _ in range(4)]
                stores[at].insert(place, entry)
                self.assertEqual(self.number(stores), at)
                self.assertEqual(self.number(stores[:at + 1]), at)

    def test_the_first_is_told(self):
        bad = ([GOOD] * 41, [(TITLE, ())], [((9, 16), PIECE)], [(TITLE, (9973,))])
        for first, second in itertools.permutations(bad, 2):
            self.assertEqual(self.number([[], first, second]), 1)
            self.assertEqual(self.number([first, [GOOD], second, [], []]), 0)
            self.assertEqual(self.number([[GOOD], [GOOD], [], second, first]), 3)
            self.assertEqual(self.number([[GOOD], [GOOD], [], [], second, first]), 4)

    def test_they_are_refused_though_a_good_piece_stands_ahead(self):
        self.assertEqual(self.number([[GOOD], [(TITLE, ())]]), 1)
        self.assertEqual(self.number([[GOOD, (TITLE, ())]]), 0)

    def test_what_can_be(self):
        bounds = [((0, 9972, 0), (0, 9972)), ((9972, 0, 9972), (9972,))]
        for stores in ([[]], [[GOOD] * 40], [[], [], [], []], [bounds]):
            self.assertIsNone(check_stores(stores))
            self.assertEqual(len(fetched(stores, TITLE)), 2)


class Lists(unittest.TestCase):
    """Point 1: nothing that is handed in is changed or kept, and the same is told again."""

    def test_stores_that_are_changed_behind(self):
        stores = [[SPOILT], [OTHER, GOOD]]
        told = fetched(stores, TITLE)
        self.assertEqual(stores, [[SPOILT], [OTHER, GOOD]])
        stores[1].clear()
        stores.append([OTHER])
        self.assertEqual(told, (PIECE, 2))
        self.assertEqual(fetched(stores, TITLE), (None, 1))
        self.assertEqual(stores, [[SPOILT], [], [OTHER]])

    def test_stores_that_were_refused(self):
        stores = [[GOOD], [(TITLE, ())]]
        self.assertRaises(BadStores, fetched, stores, TITLE)
        self.assertEqual(stores, [[GOOD], [(TITLE, ())]])


if __name__ == "__main__":
    unittest.main()
