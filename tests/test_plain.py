"""plain and turned_over."""

import unittest

from plustables.errors import NoSquare, NoTable
from plustables.tables import is_table, plain, turned_over

from examples import SIZES, all_squares, all_tables_of_four, copied, looks_like_table, mixed, no_squares, no_tables


def small_tables():
    yield from all_squares(1)
    yield from (rows for rows in all_squares(2) if looks_like_table(rows))
    yield from all_tables_of_four()


def tables():
    yield from small_tables()
    for size in SIZES:
        for seed in range(12):
            yield mixed(size, seed)


def step_by_step(rows):
    rows = copied(rows)
    for j in range(len(rows)):
        if rows[0][j] == -1:
            for row in rows:
                row[j] = -row[j]
    for row in rows:
        if row[0] == -1:
            row[:] = [-number for number in row]
    return rows


class Plain(unittest.TestCase):
    def test_one_row(self):
        self.assertEqual(plain([[1]]), [[1]])
        self.assertEqual(plain([[-1]]), [[1]])

    def test_two_rows(self):
        for rows in ([[1, 1], [1, -1]], [[-1, 1], [1, 1]], [[1, -1], [-1, -1]], [[-1, -1], [-1, 1]]):
            with self.subTest(rows=rows):
                self.assertEqual(plain(rows), [[1, 1], [1, -1]])

    def test_written_out(self):
        rows = [[-1, 1, 1, 1], [1, -1, 1, 1], [1, 1, -1, 1], [1, 1, 1, -1]]
        self.assertEqual(plain(rows), [[1, 1, 1, 1], [1, 1, -1, -1], [1, -1, 1, -1], [1, -1, -1, 1]])

    def test_place_by_place(self):
        for rows in tables():
            with self.subTest(rows=rows):
                self.assertEqual(plain(rows), step_by_step(rows))

    def test_it_is_a_table_with_1_alone_in_first_row_and_column(self):
        for rows in tables():
            with self.subTest(rows=rows):
                found = plain(rows)
                size = len(rows)
                self.assertTrue(looks_like_table(found))
                self.assertTrue(is_table(found))
                self.assertEqual(len(found), size)
                self.assertEqual(found[0], [1] * size)
                self.assertEqual([row[0] for row in found], [1] * size)

    def test_the_plain_one_of_a_plain_one_is_itself(self):
        for rows in tables():
            with self.subTest(rows=rows):
                found = plain(rows)
                self.assertEqual(plain(found), found)


class TurnedOver(unittest.TestCase):
    def test_one_row(self):
        self.assertEqual(turned_over([[1]]), [[1]])
        self.assertEqual(turned_over([[-1]]), [[-1]])

    def test_two_rows(self):
        self.assertEqual(turned_over([[1, -1], [1, 1]]), [[1, 1], [-1, 1]])
        self.assertEqual(turned_over([[1, 1], [-1, 1]]), [[1, -1], [1, 1]])

    def test_place_by_place(self):
        for rows in tables():
            with self.subTest(rows=rows):
                found = turned_over(rows)
                size = len(rows)
                self.assertEqual([len(row) for row in found], [size] * size)
                for i in range(size):
                    for j in range(size):
                        self.assertEqual(found[i][j], rows[j][i])

    def test_it_is_a_table(self):
        for rows in tables():
            with self.subTest(rows=rows):
                self.assertTrue(looks_like_table(turned_over(rows)))
                self.assertTrue(is_table(turned_over(rows)))

    def test_twice_it_is_the_first_one_again(self):
        for rows in tables():
            with self.subTest(rows=rows):
                self.assertEqual(turned_over(turned_over(rows)), rows)

    def test_some_tables_are_changed_by_it(self):
        for size in SIZES[1:]:
            with self.subTest(size=size):
                self.assertTrue(any(turned_over(mixed(size, seed)) != mixed(size, seed) for seed in range(12)))


class Refusals(unittest.TestCase):
    def test_no_square(self):
        for function in (plain, turned_over):
            for rows in no_squares():
                with self.subTest(function=function, rows=rows), self.assertRaises(NoSquare):
                    function(rows)

    def test_no_table(self):
        for function in (plain, turned_over):
            for rows in no_tables():
                with self.subTest(function=function, rows=rows), self.assertRaises(NoTable):
                    function(rows)

    def test_no_square_is_ahead_of_no_table(self):
        for function in (plain, turned_over):
            for rows in ([[1, 1], [1, 2]], [[1, 1, 1], [1, 1, 1], [1, 1, 0]], [[1] * 25 for _ in range(25)]):
                with self.subTest(function=function, rows=rows), self.assertRaises(NoSquare):
                    function(rows)


if __name__ == "__main__":
    unittest.main()
