"""product."""

import itertools
import unittest

from plustables.errors import NoSquare, NoTable, TooGreat
from plustables.tables import is_table, product

from examples import SIZES, looks_like_table, mixed, no_squares, no_tables, of_bits, table

NO_SQUARE = [[1, 1], [1, 0]]
NO_TABLE = [[1, 1], [1, 1]]


def by_places(one, other):
    """Place by place: the numbers of both, multiplied; the other's places change first."""
    m = len(other)
    size = len(one) * m
    return [[one[i // m][j // m] * other[i % m][j % m] for j in range(size)] for i in range(size)]


class Product(unittest.TestCase):
    def test_written_out(self):
        self.assertEqual(
            product([[1, 1], [1, -1]], [[1, -1], [1, 1]]),
            [[1, -1, 1, -1], [1, 1, 1, 1], [1, -1, -1, 1], [1, 1, -1, -1]],
        )

    def test_the_order_hangs_on_which_is_the_one(self):
        self.assertEqual(
            product([[1, -1], [1, 1]], [[1, 1], [1, -1]]),
            [[1, 1, -1, -1], [1, -1, -1, 1], [1, 1, 1, 1], [1, -1, 1, -1]],
        )

    def test_with_one_row(self):
        for size in SIZES:
            rows = mixed(size, 3)
            contrary = [[-number for number in row] for row in rows]
            with self.subTest(size=size):
                self.assertEqual(product([[1]], rows), rows)
                self.assertEqual(product(rows, [[1]]), rows)
                self.assertEqual(product([[-1]], rows), contrary)
                self.assertEqual(product(rows, [[-1]]), contrary)

    def test_every_two_sizes_up_to_24_rows(self):
        seen = []
        for m, n in itertools.product(SIZES, repeat=2):
            if m * n > 24:
                continue
            for seed in range(6):
                one = mixed(m, seed)
                other = mixed(n, seed + 1)
                with self.subTest(m=m, n=n, seed=seed):
                    found = product(one, other)
                    self.assertEqual(found, by_places(one, other))
                    self.assertTrue(looks_like_table(found))
                    self.assertTrue(is_table(found))
            seen.append(m * n)
        self.assertEqual(sorted(set(seen)), list(SIZES))

    def test_more_than_24_rows(self):
        for m, n in itertools.product(SIZES, repeat=2):
            if m * n <= 24:
                continue
            with self.subTest(m=m, n=n), self.assertRaises(TooGreat):
                product(mixed(m, 1), mixed(n, 2))


class Refusals(unittest.TestCase):
    def test_no_square_in_either_place(self):
        for rows in no_squares():
            with self.subTest(rows=rows):
                with self.assertRaises(NoSquare):
                    product(rows, [[1]])
                with self.assertRaises(NoSquare):
                    product([[1]], rows)

    def test_no_table_in_either_place(self):
        for rows in no_tables():
            with self.subTest(rows=rows):
                with self.assertRaises(NoTable):
                    product(rows, [[1]])
                with self.assertRaises(NoTable):
                    product([[1]], rows)

    def test_the_first_ones_refusal_is_ahead_of_the_other_ones(self):
        with self.assertRaises(NoTable):
            product(NO_TABLE, NO_SQUARE)
        with self.assertRaises(NoSquare):
            product(NO_SQUARE, NO_TABLE)
        with self.assertRaises(NoSquare):
            product(NO_SQUARE, NO_SQUARE)
        with self.assertRaises(NoTable):
            product(NO_TABLE, NO_TABLE)

    def test_both_are_ahead_of_too_great(self):
        unbalanced = [[1] * 24 for _ in range(24)]
        for great in (table(24), table(16)):
            cases = [
                (NoSquare, NO_SQUARE, great), (NoSquare, great, NO_SQUARE),
                (NoTable, NO_TABLE, great), (NoTable, great, NO_TABLE),
                (NoSquare, of_bits(32), great), (NoSquare, great, of_bits(32)),
                (NoTable, unbalanced, great), (NoTable, great, unbalanced),
                (NoTable, unbalanced, of_bits(32)), (NoSquare, of_bits(32), unbalanced),
                (NoSquare, great, []), (NoSquare, [], great),
            ]
            for wanted, one, other in cases:
                with self.subTest(wanted=wanted, one=len(one), other=len(other)), self.assertRaises(wanted):
                    product(one, other)

    def test_32_rows_times_one_is_no_square_rather_than_too_great(self):
        with self.assertRaises(NoSquare):
            product(of_bits(32), [[1]])
        with self.assertRaises(NoSquare):
            product([[1]], of_bits(32))


if __name__ == "__main__":
    unittest.main()
