"""What is a square and what is a table."""

import itertools
import unittest

from plustables.tables import is_square, is_table

from examples import FAR, SIZES, all_squares, all_tables_of_four, looks_like_table, mixed, no_squares, no_tables
from examples import of_bits, of_residues, table


class Squares(unittest.TestCase):
    def test_squares_of_every_size(self):
        for size in range(1, 25):
            with self.subTest(size=size):
                self.assertIs(is_square([[1] * size for _ in range(size)]), True)
                self.assertIs(is_square([[-1] * size for _ in range(size)]), True)
                self.assertIs(is_square([[(-1) ** (i * j) for j in range(size)] for i in range(size)]), True)

    def test_tables_are_squares(self):
        for size in SIZES:
            self.assertIs(is_square(table(size)), True)

    def test_what_is_no_square(self):
        for rows in no_squares():
            with self.subTest(rows=rows):
                self.assertIs(is_square(rows), False)

    def test_squares_that_are_no_tables_are_squares(self):
        for rows in no_tables():
            with self.subTest(rows=rows):
                self.assertIs(is_square(rows), True)

    def test_every_two_rows_of_small_numbers(self):
        for numbers in itertools.product(range(-2, 3), repeat=4):
            rows = [list(numbers[:2]), list(numbers[2:])]
            with self.subTest(rows=rows):
                self.assertIs(is_square(rows), all(abs(number) == 1 for number in numbers))

    def test_one_row(self):
        for number in tuple(range(-50, 51)) + FAR:
            with self.subTest(number=number):
                self.assertIs(is_square([[number]]), number in (1, -1))

    def test_every_form_of_up_to_three_rows(self):
        for count in range(4):
            for lengths in itertools.product(range(5), repeat=count):
                with self.subTest(lengths=lengths):
                    wanted = count > 0 and all(length == count for length in lengths)
                    self.assertIs(is_square([[1] * length for length in lengths]), wanted)

    def test_a_wrong_number_in_any_place(self):
        for size in (3, 7, 24):
            for i, j in itertools.product(range(size), repeat=2):
                rows = [[1] * size for _ in range(size)]
                rows[i][j] = 0
                with self.subTest(size=size, i=i, j=j):
                    self.assertIs(is_square(rows), False)
                    self.assertIs(is_table(rows), False)

    def test_more_than_24_rows(self):
        for size in (25, 26, 28, 32, 48, 200, 201):
            with self.subTest(size=size):
                self.assertIs(is_square([[1] * size for _ in range(size)]), False)


class Tables(unittest.TestCase):
    def test_tables_of_every_size(self):
        for size in SIZES:
            for seed in range(12):
                with self.subTest(size=size, seed=seed):
                    rows = mixed(size, seed)
                    self.assertTrue(looks_like_table(rows))
                    self.assertIs(is_table(rows), True)

    def test_one_row(self):
        self.assertIs(is_table([[1]]), True)
        self.assertIs(is_table([[-1]]), True)
        self.assertIs(is_table([[0]]), False)

    def test_written_out(self):
        self.assertIs(is_table([[1, 1], [1, -1]]), True)
        self.assertIs(is_table([[1, 1], [-1, 1]]), True)
        self.assertIs(is_table([[1, 1], [1, 1]]), False)
        self.assertIs(is_table([[1, 1], [-1, -1]]), False)
        self.assertIs(is_table([[-1, 1, 1, 1], [1, -1, 1, 1], [1, 1, -1, 1], [1, 1, 1, -1]]), True)

    def test_what_is_no_square_is_no_table(self):
        for rows in no_squares():
            with self.subTest(rows=rows):
                self.assertIs(is_table(rows), False)

    def test_squares_that_are_no_tables(self):
        for rows in no_tables():
            with self.subTest(rows=rows):
                self.assertIs(is_table(rows), False)

    def test_every_square_of_up_to_three_rows(self):
        for size, wanted in ((1, 2), (2, 8), (3, 0)):
            with self.subTest(size=size):
                self.assertEqual(sum(is_table(rows) for rows in all_squares(size)), wanted)

    def test_every_square_of_four_rows(self):
        found = [rows for rows in all_squares(4) if is_table(rows)]
        self.assertEqual(len(found), 768)
        self.assertEqual(sorted(found), sorted(all_tables_of_four()))

    def test_any_one_number_turned_spoils_a_table(self):
        for size in SIZES[1:]:
            for i, j in itertools.product(range(size), repeat=2):
                rows = table(size)
                rows[i][j] *= -1
                with self.subTest(size=size, i=i, j=j):
                    self.assertIs(is_table(rows), False)

    def test_any_two_rows_alike_or_contrary_spoil_a_table(self):
        for size in SIZES[1:]:
            for i, j in itertools.permutations(range(size), 2):
                with self.subTest(size=size, i=i, j=j):
                    rows = table(size)
                    rows[i] = list(rows[j])
                    self.assertIs(is_table(rows), False)
                    rows[i] = [-number for number in rows[j]]
                    self.assertIs(is_table(rows), False)

    def test_any_other_size_has_no_table(self):
        for size in set(range(1, 25)) - set(SIZES):
            with self.subTest(size=size):
                self.assertIs(is_table([row[:size] for row in of_bits(32)[:size]]), False)
                self.assertIs(is_table([row[:size] for row in of_residues(23)[:size]]), False)

    def test_a_balanced_square_of_more_than_24_rows_is_no_table(self):
        for size in (32, 64, 128):
            with self.subTest(size=size):
                self.assertTrue(looks_like_table(of_bits(size)))
                self.assertIs(is_square(of_bits(size)), False)
                self.assertIs(is_table(of_bits(size)), False)


if __name__ == "__main__":
    unittest.main()
