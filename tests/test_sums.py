"""Points 4 and 5 of the document: sums, joined sums, names and seals."""

import unittest

from twoimages.sums import joined, name, seal, sums

PIECES = ((), (0,), (9972,), (1, 2, 3), (9972, 9972, 9972), (5, 0), (0, 0, 0), (4321, 17, 9000))


def plainly(row):
    """The sums, each worked out at once instead of cell by cell."""
    many = len(row)
    one = sum(worth + 1 for worth in row) % 9973
    two = sum((many - at) * (worth + 1) for at, worth in enumerate(row)) % 9973
    return (one, two)


def long_row(many):
    return [(at * at * 37 + at * 1009 + 12) % 9973 for at in range(many)]


class Sums(unittest.TestCase):
    def test_rows_worked_out_by_hand(self):
        self.assertEqual(sums([]), (0, 0))
        self.assertEqual(sums([0]), (1, 1))
        self.assertEqual(sums([0, 0]), (2, 3))
        self.assertEqual(sums([1, 2, 3]), (9, 16))
        self.assertEqual(sums([3, 2, 1]), (9, 20))
        self.assertEqual(sums([9971]), (9972, 9972))
        self.assertEqual(sums([9972]), (0, 0))
        self.assertEqual(sums([9972, 0]), (1, 1))
        self.assertEqual(sums([9971, 5]), (5, 4))
        self.assertEqual(sums([9971, 0, 0]), (1, 0))

    def test_longer_rows(self):
        for many in (4, 12, 54, 400):
            row = long_row(many)
            self.assertEqual(sums(row), plainly(row))
            self.assertEqual(sums([9972] * many), (0, 0))
            self.assertEqual(sums([0] * many), plainly([0] * many))

    def test_a_tuple_is_a_row_too(self):
        self.assertEqual(sums((1, 2, 3)), (9, 16))
        self.assertEqual(sums(()), (0, 0))
        self.assertIsInstance(sums([1, 2]), tuple)

    def test_a_broken_cell(self):
        self.assertIsNone(sums([None]))
        for at in range(4):
            row = [1, 0, 9972, 3]
            row[at] = None
            self.assertIsNone(sums(row))
            self.assertIsNone(sums(tuple(row)))
        self.assertIsNone(sums([None, None]))

    def test_one_number_unlike(self):
        row = [7, 0, 9972, 41]
        for at in range(4):
            told = set()
            for worth in range(9973):
                row[at] = worth
                told.add(sums(row))
            self.assertEqual(len(told), 9973)
            row[at] = (7, 0, 9972, 41)[at]

    def test_two_numbers_unlike(self):
        for row in ([7, 0, 9972, 41, 5], [0] * 12):
            right = sums(row)
            for first in range(len(row)):
                for second in range(first + 1, len(row)):
                    for more in (1, 2, 4986, 4987, 9971, 9972):
                        other = list(row)
                        other[first] = (other[first] + more) % 9973
                        other[second] = (other[second] - more) % 9973
                        self.assertNotEqual(sums(other), right)
            self.assertEqual(sums(row), right)

    def test_every_two_small_numbers_unlike(self):
        told = set()
        for first in range(60):
            for second in range(60):
                told.add(sums([first, 5, second]))
        self.assertEqual(len(told), 3600)

    def test_three_numbers_unlike_are_not_always_seen(self):
        self.assertEqual(sums([10, 10, 10]), sums([11, 8, 11]))
        self.assertNotEqual(sums([10, 10, 10]), sums([11, 9, 11]))


class Joined(unittest.TestCase):
    def parts(self, rows):
        return [sums(row) + (len(row),) for row in rows]

    def test_no_parts_and_one(self):
        self.assertEqual(joined([]), (0, 0))
        self.assertEqual(joined([(0, 0, 0)]), (0, 0))
        self.assertEqual(joined([(9, 16, 3)]), (9, 16))
        self.assertEqual(joined([(9972, 4, 1)]), (9972, 4))

    def test_parts_worked_out_by_hand(self):
        self.assertEqual(joined([(1, 1, 1), (1, 1, 1)]), (2, 3))
        self.assertEqual(joined([(2, 2, 1), (7, 10, 2)]), (9, 16))
        self.assertEqual(joined([(9972, 9972, 1), (6, 6, 1)]), (5, 4))

    def test_every_two_and_three_pieces(self):
        for first in PIECES:
            for second in PIECES:
                whole = sums(first + second)
                self.assertEqual(joined(self.parts([first, second])), whole)
                for third in PIECES:
                    self.assertEqual(joined(self.parts([first, second, third])), sums(first + second + third))

    def test_a_long_row_split_everywhere(self):
        row = long_row(400)
        for at in range(0, 401, 7):
            self.assertEqual(joined(self.parts([row[:at], row[at:]])), sums(row))
        for many in (1, 3, 50):
            pieces = [row[at:at + many] for at in range(0, 400, many)]
            self.assertEqual(joined(self.parts(pieces)), sums(row))

    def test_names_are_parts(self):
        row = long_row(11)
        pieces = [row[at:at + 3] for at in range(0, 11, 3)]
        self.assertEqual(joined([name(piece) for piece in pieces]), sums(row))

    def test_the_order_of_the_parts(self):
        first, second = self.parts([(1, 2, 3), (50, 60)])
        self.assertNotEqual(joined([first, second]), joined([second, first]))

    def test_it_tells_a_tuple(self):
        self.assertIsInstance(joined([(1, 1, 1)]), tuple)


class Names(unittest.TestCase):
    def test_both_sums_and_how_many(self):
        self.assertEqual(name((1, 2, 3)), (9, 16, 3))
        self.assertEqual(name([0]), (1, 1, 1))
        self.assertEqual(name(()), (0, 0, 0))
        for piece in PIECES:
            self.assertEqual(name(piece), plainly(piece) + (len(piece),))
            self.assertEqual(name(list(piece)), name(tuple(piece)))
        self.assertIsInstance(name((1, 2)), tuple)

    def test_a_broken_cell(self):
        for piece in ((None,), (None, 2, 3), (1, None, 3), (1, 2, None), (None, None, None)):
            self.assertIsNone(name(piece))
            self.assertIsNone(name(list(piece)))

    def test_pieces_of_other_lengths_with_the_same_sums(self):
        self.assertEqual(sums((9972,)), sums((9972, 9972)))
        self.assertNotEqual(name((9972,)), name((9972, 9972)))


class Seals(unittest.TestCase):
    def test_rows_worked_out_by_hand(self):
        self.assertEqual(seal(7, []), 7)
        self.assertEqual(seal(9972, []), 9972)
        self.assertEqual(seal(7, [0]), 50)
        self.assertEqual(seal(2, [3, 4]), 21)
        self.assertEqual(seal(1, [5]), 7)
        self.assertEqual(seal(1, [9971]), 0)
        self.assertEqual(seal(1, [9972]), 1)
        self.assertEqual(seal(100, [0]), 28)
        self.assertEqual(seal(9972, [9972]), 1)
        self.assertEqual(seal(9972, [9972, 9972]), 9972)
        self.assertEqual(seal(2, (3, 4)), 21)

    def test_all_at_once(self):
        for key in (1, 2, 3, 99, 4987, 9971, 9972):
            for row in ([1, 2, 3, 4, 5], [999, 12, 9972, 9972, 3], [0] * 5, long_row(9)):
                many = len(row)
                told = key ** (many + 1) + sum((worth + 1) * key ** (many - 1 - at) for at, worth in enumerate(row))
                self.assertEqual(seal(key, row), told % 9973)

    def test_other_keys_numbers_and_orders(self):
        row = [1, 5, 77, 88, 0]
        self.assertNotEqual(seal(5, row), seal(6, row))
        self.assertNotEqual(seal(5, row), seal(5, row[::-1]))
        for at in range(5):
            other = list(row)
            other[at] += 1
            self.assertNotEqual(seal(5, other), seal(5, row))


class Lists(unittest.TestCase):
    """Point 1: nothing that is handed in is changed or kept, and the same is told again."""

    def test_rows_stay_as_they_are(self):
        row = [1, 2, 3]
        broken = [1, None, 3]
        for _ in range(2):
            self.assertEqual(sums(row), (9, 16))
            self.assertEqual(name(row), (9, 16, 3))
            self.assertEqual(seal(2, row), 34)
            self.assertIsNone(sums(broken))
            self.assertIsNone(name(broken))
        self.assertEqual(row, [1, 2, 3])
        self.assertEqual(broken, [1, None, 3])

    def test_rows_that_are_changed_behind(self):
        row = [1, 2, 3]
        told = (sums(row), name(row), seal(2, row))
        row[0] = 5
        row.append(6)
        self.assertEqual(told, ((9, 16), (9, 16, 3), 34))
        self.assertEqual(sums(row), plainly(row))
        self.assertEqual(name(row), plainly(row) + (4,))

    def test_parts_stay_as_they_are(self):
        parts = [(2, 2, 1), (7, 10, 2)]
        for _ in range(2):
            self.assertEqual(joined(parts), (9, 16))
        self.assertEqual(parts, [(2, 2, 1), (7, 10, 2)])
        parts.append((1, 1, 1))
        self.assertEqual(joined(parts), (10, 26))


if __name__ == "__main__":
    unittest.main()
