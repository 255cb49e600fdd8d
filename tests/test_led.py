"""led."""

import itertools
import unittest

from plustables.errors import NoSquare, NoTable, TooGreat, Unlike
from plustables.making import made
from plustables.moves import led, moved

from examples import SIZES, all_squares, all_tables_of_four, copied, looks_like_table, mixed, no_squares, no_tables
from examples import of_bits, of_residues, shuffled, table

NO_SQUARE = [[1, 1], [1, 0]]
NO_TABLE = [[1, 1], [1, 1]]


def tables_of_eight():
    for seed in range(150):
        yield shuffled(of_bits(8), seed)
        yield shuffled(of_residues(7), seed)
    for seed in range(12):
        yield mixed(8, seed)
    yield of_bits(8)
    yield of_residues(7)
    yield made(8)


class Led(unittest.TestCase):
    def check(self, one, other):
        found = led(one, other)
        self.assertIs(type(found), list)
        self.assertLessEqual(len(found), 100)
        for move in found:
            self.check_move(move, len(one))
        self.assertEqual(moved(one, found), other)

    def check_move(self, move, size):
        self.assertIs(type(move), tuple)
        self.assertIn(move[0], ("row", "column", "rows", "columns"))
        self.assertEqual(len(move), 3 if move[0] in ("rows", "columns") else 2)
        for place in move[1:]:
            self.assertIs(type(place), int)
            self.assertIn(place, range(size))
        if len(move) == 3:
            self.assertLess(move[1], move[2])

    def test_every_two_of_one_and_of_two_rows(self):
        for size in (1, 2):
            tables = [rows for rows in all_squares(size) if looks_like_table(rows)]
            for one, other in itertools.product(tables, repeat=2):
                with self.subTest(one=one, other=other):
                    self.check(one, other)

    def test_four_rows(self):
        tables = list(all_tables_of_four())
        self.assertEqual(len(tables), 768)
        for step in (1, 5, 101, 383):
            for place, one in enumerate(tables):
                other = tables[(place + step) % len(tables)]
                with self.subTest(one=one, other=other):
                    self.check(one, other)

    def test_eight_rows(self):
        tables = list(tables_of_eight())
        for step in (1, 2, 7, 50):
            for place, one in enumerate(tables):
                other = tables[(place + step) % len(tables)]
                with self.subTest(one=one, other=other):
                    self.check(one, other)

    def test_every_order_of_the_rows_of_eight_by_threes(self):
        rows = of_residues(7)
        for three in itertools.permutations(range(8), 3):
            order = list(three) + [place for place in range(8) if place not in three]
            with self.subTest(order=order):
                self.check([rows[place] for place in order], of_bits(8))
                self.check(of_bits(8), [rows[place] for place in order])

    def test_every_place_of_the_row_that_rows_one_and_two_give(self):
        # Row 3 of these eight is rows 1 and 2 multiplied place by place.
        for place in range(3, 8):
            rows = of_bits(8)
            rows[3], rows[place] = rows[place], rows[3]
            with self.subTest(place=place):
                self.check(rows, of_bits(8))
                self.check(of_residues(7), rows)

    def test_the_same_table_twice(self):
        for size in (1, 2, 4, 8):
            for seed in range(10):
                rows = shuffled(table(size), seed)
                with self.subTest(rows=rows):
                    self.check(rows, copied(rows))
                    self.check(rows, rows)

    def test_turned_over(self):
        for seed in range(10):
            rows = shuffled(of_residues(7), seed)
            self.check(rows, [list(column) for column in zip(*rows)])


class Refusals(unittest.TestCase):
    def test_unlike_sizes(self):
        for m, n in itertools.permutations(SIZES, 2):
            with self.subTest(m=m, n=n), self.assertRaises(Unlike):
                led(mixed(m, 1), mixed(n, 2))

    def test_too_great(self):
        for size in (12, 16, 20, 24):
            with self.subTest(size=size):
                with self.assertRaises(TooGreat):
                    led(mixed(size, 1), mixed(size, 2))
                with self.assertRaises(TooGreat):
                    led(table(size), table(size))

    def test_no_square_in_either_place(self):
        for rows in no_squares():
            for good in ([[1]], mixed(8, 1), mixed(24, 1)):
                with self.subTest(rows=rows, good=len(good)):
                    with self.assertRaises(NoSquare):
                        led(rows, good)
                    with self.assertRaises(NoSquare):
                        led(good, rows)

    def test_no_table_in_either_place(self):
        for rows in no_tables():
            for good in ([[1]], table(8), table(24)):
                with self.subTest(rows=rows, good=len(good)):
                    with self.assertRaises(NoTable):
                        led(rows, good)
                    with self.assertRaises(NoTable):
                        led(good, rows)

    def test_the_first_ones_refusal_is_ahead_of_the_other_ones(self):
        unbalanced = [[1] * 24 for _ in range(24)]
        cases = [
            (NoTable, NO_TABLE, NO_SQUARE), (NoSquare, NO_SQUARE, NO_TABLE),
            (NoTable, NO_TABLE, NO_TABLE), (NoSquare, NO_SQUARE, NO_SQUARE),
            (NoTable, unbalanced, NO_SQUARE), (NoSquare, NO_SQUARE, unbalanced),
            (NoTable, unbalanced, []), (NoSquare, [], unbalanced),
            (NoTable, NO_TABLE, of_bits(32)), (NoSquare, of_bits(32), NO_TABLE),
        ]
        for wanted, one, other in cases:
            with self.subTest(wanted=wanted, one=one, other=other), self.assertRaises(wanted):
                led(one, other)


if __name__ == "__main__":
    unittest.main()
