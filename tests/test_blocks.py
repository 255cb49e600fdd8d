"""agree and blocks."""

import itertools
import unittest

from plustables.counts import agree, blocks
from plustables.errors import NoMove, NoSquare, NoTable
from plustables.tables import plain

from examples import FAR, SIZES, any_tables, mixed, no_squares, no_tables, of_bits, of_residues, shuffled, table


class Agree(unittest.TestCase):
    def test_written_out(self):
        rows = [[-1, 1, 1, 1], [1, -1, 1, 1], [1, 1, -1, 1], [-1, -1, -1, 1]]
        self.assertEqual(agree(rows, 0, 1, 2), 1)
        self.assertEqual(agree(rows, 3, 0, 1), 1)

    def test_a_quarter_of_the_places(self):
        for size in SIZES[2:]:
            rows = mixed(size, 3)
            threes = itertools.permutations if size <= 12 else itertools.combinations
            for three in threes(range(size), 3):
                with self.subTest(size=size, three=three):
                    found = agree(rows, *three)
                    self.assertEqual(found, size // 4)
                    self.assertIs(type(found), int)

    def test_counted_place_by_place(self):
        for size in SIZES[2:]:
            for seed in range(4):
                rows = shuffled(table(size), seed)
                for three in {(0, 1, 2), (size - 1, 0, size // 2), (1, size - 1, size - 2)}:
                    same = sum(len({rows[number][place] for number in three}) == 1 for place in range(size))
                    self.assertEqual(agree(rows, *three), same)

    def test_wrong_numbers_in_any_place(self):
        for size in SIZES:
            good = [0, size // 2, size - 1]
            for wrong, place in itertools.product((-1, -2, -size, -size - 1, size, size + 1, 25) + FAR, range(3)):
                three = list(good)
                three[place] = wrong
                with self.subTest(size=size, three=three), self.assertRaises(NoMove):
                    agree(mixed(size, 1), *three)

    def test_two_alike(self):
        for size in SIZES[2:]:
            rows = mixed(size, 2)
            for one, other in itertools.permutations(range(size), 2):
                for three in ((one, one, other), (one, other, one), (other, one, one), (one, one, one)):
                    with self.subTest(size=size, three=three), self.assertRaises(NoMove):
                        agree(rows, *three)

    def test_one_and_two_rows_have_no_three(self):
        for rows in ([[1]], [[-1]], [[1, 1], [1, -1]], [[1, -1], [-1, -1]]):
            for three in itertools.product(range(-3, 5), repeat=3):
                with self.subTest(rows=rows, three=three), self.assertRaises(NoMove):
                    agree(rows, *three)

    def test_numbers_below_nought_are_not_counted_from_the_end(self):
        for three in ((-1, 0, 1), (0, -2, 1), (0, 1, -4), (-1, -2, -3)):
            with self.subTest(three=three), self.assertRaises(NoMove):
                agree(table(4), *three)

    def test_no_square_is_ahead(self):
        for rows in no_squares():
            for three in ((0, 1, 2), (0, 0, 0), (-1, 99, 5)):
                with self.subTest(rows=rows, three=three), self.assertRaises(NoSquare):
                    agree(rows, *three)

    def test_no_table_is_ahead(self):
        for rows in no_tables():
            for three in ((0, 1, 2), (0, 0, 0), (-1, 99, 5)):
                with self.subTest(rows=rows, three=three), self.assertRaises(NoTable):
                    agree(rows, *three)


class Blocks(unittest.TestCase):
    def test_one_and_two_rows(self):
        for rows in ([[1]], [[-1]]):
            self.assertEqual(blocks(rows), [])
        for rows in ([[1, 1], [1, -1]], [[1, -1], [1, 1]], [[-1, -1], [1, -1]], [[-1, 1], [-1, -1]]):
            self.assertEqual(blocks(rows), [[]])

    def test_four_rows(self):
        self.assertEqual(blocks(of_bits(4)), [[2], [1], [3]])
        self.assertEqual(blocks([[-1, 1, 1, 1], [1, -1, 1, 1], [1, 1, -1, 1], [1, 1, 1, -1]]), [[1], [2], [3]])

    def test_eight_rows(self):
        self.assertEqual(
            blocks(of_bits(8)),
            [[2, 4, 6], [1, 4, 5], [3, 4, 7], [1, 2, 3], [2, 5, 7], [1, 6, 7], [3, 5, 6]],
        )

    def test_twelve_rows(self):
        self.assertEqual(
            blocks(of_residues(11)),
            [
                [3, 7, 8, 9, 11], [1, 4, 8, 9, 10], [2, 5, 9, 10, 11], [1, 3, 6, 10, 11], [1, 2, 4, 7, 11],
                [1, 2, 3, 5, 8], [2, 3, 4, 6, 9], [3, 4, 5, 7, 10], [4, 5, 6, 8, 11], [1, 5, 6, 7, 9],
                [2, 6, 7, 8, 10],
            ],
        )

    def test_by_the_first_row_and_column(self):
        # A place of the plain table is 1 where it and the first one are alike as those of its row and its column are.
        for rows in any_tables():
            wanted = [
                [j for j in range(1, len(rows)) if rows[i][j] * rows[0][j] == rows[i][0] * rows[0][0]]
                for i in range(1, len(rows))
            ]
            with self.subTest(rows=rows):
                self.assertEqual(blocks(rows), wanted)

    def test_the_same_as_of_the_plain_table(self):
        for rows in any_tables():
            self.assertEqual(blocks(rows), blocks(plain(rows)))

    def test_how_many_columns_each_has(self):
        for size in SIZES[2:]:
            for seed in range(6):
                found = blocks(shuffled(table(size), seed))
                with self.subTest(size=size, seed=seed):
                    self.assertEqual([len(block) for block in found], [size // 2 - 1] * (size - 1))
                    for block in found:
                        self.assertEqual(block, sorted(set(block)))
                        self.assertLessEqual(set(block), set(range(1, size)))

    def test_how_many_blocks_two_columns_are_together_in(self):
        for size in SIZES[2:]:
            found = blocks(shuffled(table(size), 3))
            for j, k in itertools.combinations(range(1, size), 2):
                with self.subTest(size=size, j=j, k=k):
                    self.assertEqual(sum(j in block and k in block for block in found), size // 4 - 1)

    def test_no_square(self):
        for rows in no_squares():
            with self.subTest(rows=rows), self.assertRaises(NoSquare):
                blocks(rows)

    def test_no_table(self):
        for rows in no_tables():
            with self.subTest(rows=rows), self.assertRaises(NoTable):
                blocks(rows)


if __name__ == "__main__":
    unittest.main()
