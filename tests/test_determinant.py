"""determinant and excess."""

import itertools
import time
import unittest

from plustables.counts import determinant, excess
from plustables.errors import NoSquare

from examples import SIZES, all_squares, any_square, any_squares, any_tables, copied, looks_like_table, mixed
from examples import no_squares, no_tables, of_bits, of_residues, table


def by_all_orders(rows):
    found = 0
    for order in itertools.permutations(range(len(rows))):
        term = 1
        for i, j in enumerate(order):
            term *= rows[i][j]
        crossings = sum(a > b for a, b in itertools.combinations(order, 2))
        found += -term if crossings % 2 else term
    return found


def remainder(rows, prime):
    """The determinant's remainder, by elimination with remainders alone."""
    rows = [[number % prime for number in row] for row in rows]
    found = 1
    for k in range(len(rows)):
        pivot = next((i for i in range(k, len(rows)) if rows[i][k]), None)
        if pivot is None:
            return 0
        if pivot != k:
            rows[k], rows[pivot] = rows[pivot], rows[k]
            found = -found
        found = found * rows[k][k] % prime
        inverse = pow(rows[k][k], -1, prime)
        for i in range(k + 1, len(rows)):
            factor = rows[i][k] * inverse % prime
            rows[i] = [(a - factor * b) % prime for a, b in zip(rows[i], rows[k])]
    return found % prime


class Determinant(unittest.TestCase):
    def test_known_ones(self):
        cases = [
            ([[1]], 1),
            ([[-1]], -1),
            ([[1, 1], [1, -1]], -2),
            ([[1, 1], [-1, 1]], 2),
            ([[1, 1], [1, 1]], 0),
            ([[1, -1], [-1, 1]], 0),
            ([[1, 1, 1], [1, -1, 1], [1, 1, -1]], 4),
            ([[-1, 1, 1], [1, -1, 1], [1, 1, -1]], 4),
            ([[1, 1, 1], [1, 1, -1], [1, -1, 1]], -4),
            ([[1, 1, 1], [1, 1, -1], [1, 1, 1]], 0),
            ([[-1, 1, 1, 1], [1, -1, 1, 1], [1, 1, -1, 1], [1, 1, 1, -1]], -16),
            ([[1, 1, 1, 1], [1, -1, 1, -1], [1, 1, -1, -1], [1, -1, -1, 1]], 16),
        ]
        for rows, wanted in cases:
            with self.subTest(rows=rows):
                self.assertEqual(determinant(rows), wanted)

    def test_every_square_of_up_to_four_rows(self):
        for size in (1, 2, 3, 4):
            for rows in itertools.islice(all_squares(size), 0, None, 7 if size == 4 else 1):
                with self.subTest(rows=rows):
                    self.assertEqual(determinant(rows), by_all_orders(rows))

    def test_squares_of_five_and_six_rows(self):
        for size, count in ((5, 60), (6, 20)):
            for seed in range(count):
                rows = any_square(size, seed)
                with self.subTest(rows=rows):
                    self.assertEqual(determinant(rows), by_all_orders(rows))

    def test_the_square_of_minus_1_on_the_slope_and_1_else(self):
        for size in range(1, 25):
            rows = [[-1 if i == j else 1 for j in range(size)] for i in range(size)]
            with self.subTest(size=size):
                self.assertEqual(determinant(rows), (-2) ** (size - 1) * (size - 2))

    def test_the_square_of_1_above_the_slope_and_minus_1_below(self):
        for size in range(1, 25):
            rows = [[1 if i <= j else -1 for j in range(size)] for i in range(size)]
            with self.subTest(size=size):
                self.assertEqual(determinant(rows), 2 ** (size - 1))
                self.assertEqual(determinant(rows[::-1]), (-1) ** (size * (size - 1) // 2) * 2 ** (size - 1))

    def test_noughts_at_the_top_on_the_way(self):
        # The first rows are alike but for their last places, so noughts come where a leading number is wanted.
        for size in range(2, 25):
            rows = [[1 if i + j < size else -1 for j in range(size)] for i in range(size)]
            with self.subTest(size=size):
                for prime in (10 ** 9 + 7, 2 ** 61 - 1):
                    self.assertEqual(determinant(rows) % prime, remainder(rows, prime))

    def test_remainders(self):
        for rows in any_squares():
            found = determinant(rows)
            with self.subTest(rows=rows):
                for prime in (10 ** 9 + 7, 10 ** 9 + 9, 2 ** 61 - 1):
                    self.assertEqual(found % prime, remainder(rows, prime))

    def test_it_is_a_whole_number(self):
        for rows in any_squares():
            self.assertIs(type(determinant(rows)), int)

    def test_two_rows_alike(self):
        for size in range(2, 25):
            for i, j in {(0, 1), (0, size - 1), (size - 2, size - 1)}:
                rows = any_square(size, 3)
                rows[i] = list(rows[j])
                with self.subTest(size=size, i=i, j=j):
                    self.assertEqual(determinant(rows), 0)
                    rows[i] = [-number for number in rows[j]]
                    self.assertEqual(determinant(rows), 0)

    def test_two_columns_alike(self):
        for size in range(2, 25):
            rows = any_square(size, 4)
            for row in rows:
                row[0] = row[-1]
            self.assertEqual(determinant(rows), 0)

    def test_two_rows_changed_about(self):
        for rows in any_squares():
            size = len(rows)
            for i, j in itertools.combinations(sorted({0, size // 2, size - 1}), 2):
                changed = copied(rows)
                changed[i], changed[j] = changed[j], changed[i]
                with self.subTest(rows=rows, i=i, j=j):
                    self.assertEqual(determinant(changed), -determinant(rows))

    def test_a_row_turned(self):
        for rows in any_squares():
            for i in {0, len(rows) - 1}:
                changed = copied(rows)
                changed[i] = [-number for number in changed[i]]
                self.assertEqual(determinant(changed), -determinant(rows))

    def test_turned_over(self):
        for rows in any_squares():
            with self.subTest(rows=rows):
                self.assertEqual(determinant([list(column) for column in zip(*rows)]), determinant(rows))

    def test_tables_are_just_as_great(self):
        for rows in any_tables():
            with self.subTest(rows=rows):
                self.assertEqual(determinant(rows) ** 2, len(rows) ** len(rows))

    def test_other_squares_are_less(self):
        for rows in itertools.chain(any_squares(), no_tables()):
            if not looks_like_table(rows):
                with self.subTest(rows=rows):
                    self.assertLess(determinant(rows) ** 2, len(rows) ** len(rows))

    def test_a_table_of_24_rows_with_one_number_turned(self):
        # Such a number changes the determinant by two parts of 24.
        for place in range(24):
            rows = mixed(24, 1)
            whole = determinant(rows)
            rows[place][23 - place] *= -1
            self.assertEqual(abs(whole), 24 ** 12)
            self.assertEqual(24 * determinant(rows), 22 * whole)

    def test_24_rows_in_a_second(self):
        for rows in [any_square(24, seed) for seed in range(5)] + [table(24), [[1] * 24 for _ in range(24)]]:
            start = time.perf_counter()
            determinant(rows)
            self.assertLess(time.perf_counter() - start, 1)

    def test_no_square(self):
        for rows in no_squares():
            with self.subTest(rows=rows), self.assertRaises(NoSquare):
                determinant(rows)


class Excess(unittest.TestCase):
    def test_known_ones(self):
        self.assertEqual(excess([[1]]), 1)
        self.assertEqual(excess([[-1]]), -1)
        self.assertEqual(excess([[1, 1], [1, -1]]), 2)
        self.assertEqual(excess([[1, 1], [1, 1]]), 4)
        self.assertEqual(excess([[-1, -1], [1, -1]]), -2)
        self.assertEqual(excess([[1, -1, -1], [1, -1, 1], [-1, -1, -1]]), -3)
        self.assertEqual(excess([[-1, 1, 1, 1], [1, -1, 1, 1], [1, 1, -1, 1], [1, 1, 1, -1]]), 8)
        self.assertEqual(excess(of_bits(16)), 16)
        self.assertEqual(excess(of_residues(11)), 12)

    def test_all_numbers_together(self):
        for rows in itertools.chain(any_squares(), no_tables()):
            with self.subTest(rows=rows):
                numbers = list(itertools.chain(*rows))
                found = excess(rows)
                self.assertEqual(found, numbers.count(1) - numbers.count(-1))
                self.assertIs(type(found), int)

    def test_the_greatest_and_the_least(self):
        for size in range(1, 25):
            self.assertEqual(excess([[1] * size for _ in range(size)]), size * size)
            self.assertEqual(excess([[-1] * size for _ in range(size)]), -size * size)

    def test_that_of_a_table_is_at_most_so_great(self):
        for rows in any_tables():
            self.assertLessEqual(excess(rows) ** 2, len(rows) ** 3)
        for size in SIZES:
            for seed in range(12):
                self.assertLessEqual(excess(mixed(size, seed)) ** 2, size ** 3)

    def test_a_table_whose_excess_is_just_so_great(self):
        four = [[-1 if i == j else 1 for j in range(4)] for i in range(4)]
        self.assertEqual(excess(four) ** 2, 4 ** 3)
        sixteen = [[four[i // 4][j // 4] * four[i % 4][j % 4] for j in range(16)] for i in range(16)]
        self.assertEqual(excess(sixteen) ** 2, 16 ** 3)

    def test_no_square(self):
        for rows in no_squares():
            with self.subTest(rows=rows), self.assertRaises(NoSquare):
                excess(rows)


if __name__ == "__main__":
    unittest.main()
