"""moved."""

import itertools
import random
import unittest

from plustables.errors import NoMove, NoSquare
from plustables.moves import moved
from plustables.tables import is_table

from examples import FAR, SIZES, any_square, any_squares, any_tables, copied, looks_like_table, no_squares, table


def done(rows, move):
    """One move, done place by place."""
    rows = copied(rows)
    form, places = move[0], move[1:]
    if form == "row":
        for j in range(len(rows)):
            rows[places[0]][j] *= -1
    elif form == "column":
        for row in rows:
            row[places[0]] *= -1
    elif form == "rows":
        j, k = places
        rows[j], rows[k] = rows[k], rows[j]
    else:
        j, k = places
        for row in rows:
            row[j], row[k] = row[k], row[j]
    return rows


def all_moves(size):
    for place in range(size):
        yield ("row", place)
        yield ("column", place)
    for j, k in itertools.combinations(range(size), 2):
        yield ("rows", j, k)
        yield ("columns", j, k)


def wrong_moves(size):
    for wrong in (-1, -2, -size, -size - 1, size, size + 1, 24, 25) + FAR:
        yield ("row", wrong)
        yield ("column", wrong)
        for form in ("rows", "columns"):
            yield (form, wrong, wrong)
            for good in {0, size // 2, size - 1}:
                yield (form, wrong, good)
                yield (form, good, wrong)
    for form in ("rows", "columns"):
        for j, k in itertools.product(range(size), repeat=2):
            if j >= k:
                yield (form, j, k)


class Moved(unittest.TestCase):
    ROWS = [[1, 1, -1], [1, -1, -1], [-1, 1, 1]]

    def test_a_row(self):
        self.assertEqual(moved(self.ROWS, [("row", 0)]), [[-1, -1, 1], [1, -1, -1], [-1, 1, 1]])
        self.assertEqual(moved(self.ROWS, [("row", 1)]), [[1, 1, -1], [-1, 1, 1], [-1, 1, 1]])
        self.assertEqual(moved(self.ROWS, [("row", 2)]), [[1, 1, -1], [1, -1, -1], [1, -1, -1]])

    def test_a_column(self):
        self.assertEqual(moved(self.ROWS, [("column", 0)]), [[-1, 1, -1], [-1, -1, -1], [1, 1, 1]])
        self.assertEqual(moved(self.ROWS, [("column", 1)]), [[1, -1, -1], [1, 1, -1], [-1, -1, 1]])
        self.assertEqual(moved(self.ROWS, [("column", 2)]), [[1, 1, 1], [1, -1, 1], [-1, 1, -1]])

    def test_two_rows(self):
        self.assertEqual(moved(self.ROWS, [("rows", 0, 1)]), [[1, -1, -1], [1, 1, -1], [-1, 1, 1]])
        self.assertEqual(moved(self.ROWS, [("rows", 0, 2)]), [[-1, 1, 1], [1, -1, -1], [1, 1, -1]])
        self.assertEqual(moved(self.ROWS, [("rows", 1, 2)]), [[1, 1, -1], [-1, 1, 1], [1, -1, -1]])

    def test_two_columns(self):
        self.assertEqual(moved(self.ROWS, [("columns", 0, 1)]), [[1, 1, -1], [-1, 1, -1], [1, -1, 1]])
        self.assertEqual(moved(self.ROWS, [("columns", 0, 2)]), [[-1, 1, 1], [-1, -1, 1], [1, 1, -1]])
        self.assertEqual(moved(self.ROWS, [("columns", 1, 2)]), [[1, -1, 1], [1, -1, -1], [-1, 1, 1]])

    def test_one_behind_the_other(self):
        self.assertEqual(moved([[1, 1], [1, -1]], [("row", 0), ("rows", 0, 1)]), [[1, -1], [-1, -1]])
        self.assertEqual(moved([[1, 1], [1, -1]], [("rows", 0, 1), ("row", 0)]), [[-1, 1], [1, 1]])
        self.assertEqual(moved([[1, -1], [1, 1]], [("column", 1), ("columns", 0, 1)]), [[1, 1], [-1, 1]])
        self.assertEqual(moved([[1, -1], [1, 1]], [("columns", 0, 1), ("column", 1)]), [[-1, -1], [1, -1]])
        self.assertEqual(
            moved(self.ROWS, [("rows", 0, 1), ("rows", 1, 2)]), [[1, -1, -1], [-1, 1, 1], [1, 1, -1]],
        )
        self.assertEqual(
            moved(self.ROWS, [("rows", 1, 2), ("rows", 0, 1)]), [[-1, 1, 1], [1, 1, -1], [1, -1, -1]],
        )

    def test_no_moves(self):
        for rows in any_squares():
            self.assertEqual(moved(rows, []), rows)

    def test_every_move_by_itself(self):
        for size in (1, 2, 3, 4, 7, 8, 12, 24):
            rows = any_square(size, 17)
            for move in all_moves(size):
                with self.subTest(size=size, move=move):
                    self.assertEqual(moved(rows, [move]), done(rows, move))

    def test_a_move_twice_changes_nothing(self):
        for size in (1, 2, 5, 24):
            rows = any_square(size, 3)
            for move in all_moves(size):
                self.assertEqual(moved(rows, [move, move]), rows)

    def test_many_moves(self):
        for size in range(1, 25):
            for seed in range(4):
                rows = any_square(size, seed)
                moves = random.Random(seed).choices(list(all_moves(size)), k=(5, 40, 200, 230)[seed])
                wanted = rows
                for move in moves:
                    wanted = done(wanted, move)
                with self.subTest(size=size, seed=seed):
                    self.assertEqual(moved(rows, moves), wanted)

    def test_a_table_stays_a_table(self):
        for rows in any_tables():
            moves = random.Random(5).choices(list(all_moves(len(rows))), k=30)
            found = moved(rows, moves)
            self.assertTrue(looks_like_table(found))
            self.assertTrue(is_table(found))

    def test_no_table_stays_no_table(self):
        self.assertEqual(moved([[1, 1], [1, 1]], [("row", 0)]), [[-1, -1], [1, 1]])
        self.assertFalse(is_table(moved([[1, 1], [1, 1]], [("row", 0), ("column", 1)])))


class Refusals(unittest.TestCase):
    def test_wrong_moves(self):
        for size in SIZES + (3, 23):
            rows = any_square(size, 1)
            for move in wrong_moves(size):
                with self.subTest(size=size, move=move), self.assertRaises(NoMove):
                    moved(rows, [move])

    def test_behind_and_ahead_of_good_moves(self):
        for size in (1, 2, 4, 9, 24):
            rows = any_square(size, 2)
            good = list(all_moves(size))[:60]
            for move in wrong_moves(size):
                with self.subTest(size=size, move=move):
                    with self.assertRaises(NoMove):
                        moved(rows, good + [move])
                    with self.assertRaises(NoMove):
                        moved(rows, [move] + good)
                    with self.assertRaises(NoMove):
                        moved(rows, good + [move] + good)

    def test_no_square(self):
        for rows in no_squares():
            for moves in ([], [("row", 0)], [("row", -1)], [("columns", 1, 1)], [("rows", 99, 98)]):
                with self.subTest(rows=rows, moves=moves), self.assertRaises(NoSquare):
                    moved(rows, moves)

    def test_no_square_that_the_moves_would_mend(self):
        with self.assertRaises(NoSquare):
            moved([[1, 1], [1, -1], [1, 1]], [("rows", 0, 2)])
        with self.assertRaises(NoSquare):
            moved([row + [1] for row in table(4)], [("columns", 0, 4)])


if __name__ == "__main__":
    unittest.main()
