"""weighed and back."""

import itertools
import random
import unittest

from plustables.errors import NoNumbers, NoSquare, NoTable
from plustables.weighing import back, weighed

from examples import FAR, SIZES, any_tables, mixed, multiplied, no_squares, no_tables, table

GREATEST = 10 ** 30 - 1


def numbers_of(size):
    """Lists of as many numbers."""
    chance = random.Random(size)
    yield [0] * size
    yield [1] * size
    yield [-1] * size
    yield [GREATEST] * size
    yield [-GREATEST] * size
    yield [GREATEST if place % 2 else -GREATEST for place in range(size)]
    yield list(range(-3, size - 3))
    yield [-(3 ** place) for place in range(size)]
    for place in {0, size // 2, size - 1}:
        yield [7 if k == place else 0 for k in range(size)]
    yield [chance.randint(-9, 9) for _ in range(size)]
    yield [chance.randint(-GREATEST, GREATEST) for _ in range(size)]


class Weighed(unittest.TestCase):
    def test_one_row(self):
        self.assertEqual(weighed([[1]], [5]), [5])
        self.assertEqual(weighed([[-1]], [5]), [-5])
        self.assertEqual(weighed([[-1]], [0]), [0])

    def test_two_rows(self):
        self.assertEqual(weighed([[1, 1], [1, -1]], [5, 3]), [8, 2])
        self.assertEqual(weighed([[1, -1], [1, 1]], [5, 3]), [2, 8])
        self.assertEqual(weighed([[-1, 1], [1, 1]], [-5, 3]), [8, -2])

    def test_four_rows(self):
        rows = [[-1, 1, 1, 1], [1, -1, 1, 1], [1, 1, -1, 1], [-1, -1, -1, 1]]
        self.assertEqual(weighed(rows, [1, 10, 100, 1000]), [1109, 1091, 911, 889])

    def test_by_rows_not_by_columns(self):
        self.assertEqual(weighed([[1, 1], [-1, 1]], [5, 3]), [8, -2])

    def test_row_by_row(self):
        for rows in any_tables():
            for numbers in numbers_of(len(rows)):
                with self.subTest(rows=rows, numbers=numbers):
                    wanted = []
                    for row in rows:
                        for_1 = sum(number for number, sign in zip(numbers, row) if sign == 1)
                        against = sum(number for number, sign in zip(numbers, row) if sign == -1)
                        wanted.append(for_1 - against)
                    self.assertEqual(weighed(rows, numbers), wanted)

    def test_all_sums_multiplied_with_themselves(self):
        for rows in any_tables():
            for numbers in numbers_of(len(rows)):
                sums = weighed(rows, numbers)
                self.assertEqual(multiplied(sums, sums), len(rows) * multiplied(numbers, numbers))


class Back(unittest.TestCase):
    def test_written_out(self):
        self.assertEqual(back([[1]], [5]), [5])
        self.assertEqual(back([[-1]], [5]), [-5])
        self.assertEqual(back([[1, 1], [1, -1]], [8, 2]), [5, 3])
        self.assertEqual(back([[1, 1], [-1, 1]], [8, -2]), [5, 3])
        rows = [[-1, 1, 1, 1], [1, -1, 1, 1], [1, 1, -1, 1], [-1, -1, -1, 1]]
        self.assertEqual(back(rows, [1109, 1091, 911, 889]), [1, 10, 100, 1000])

    def test_back_of_weighed_is_the_numbers(self):
        for rows in any_tables():
            for numbers in numbers_of(len(rows)):
                with self.subTest(rows=rows, numbers=numbers):
                    found = back(rows, weighed(rows, numbers))
                    self.assertEqual(found, numbers)
                    self.assertEqual({type(number) for number in found}, {int})

    def test_one_sum_more_or_less(self):
        for rows in any_tables():
            size = len(rows)
            for numbers in list(numbers_of(size))[-4:]:
                for place, spoil in itertools.product({0, size // 2, size - 1}, (1, -1)):
                    sums = weighed(rows, numbers)
                    sums[place] += spoil
                    with self.subTest(rows=rows, sums=sums):
                        if size == 1:
                            self.assertEqual(weighed(rows, back(rows, sums)), sums)
                        else:
                            with self.assertRaises(NoNumbers):
                                back(rows, sums)

    def test_one_sum_more_by_the_size_comes_of_whole_numbers(self):
        for rows in any_tables():
            size = len(rows)
            sums = weighed(rows, list(range(size)))
            sums[-1] += size
            wanted = [number + sign for number, sign in zip(range(size), rows[-1])]
            self.assertEqual(back(rows, sums), wanted)

    def test_one_sum_more_by_half_the_size_does_not(self):
        for size in SIZES[1:]:
            sums = weighed(mixed(size, 2), list(range(size)))
            sums[0] += size // 2
            with self.subTest(size=size), self.assertRaises(NoNumbers):
                back(mixed(size, 2), sums)

    def test_sums_of_two_halves_and_else_whole_numbers(self):
        for size in SIZES[1:]:
            rows = mixed(size, 3)
            for j, k in itertools.combinations(range(size), 2):
                sums = [(row[j] + row[k]) // 2 for row in rows]
                with self.subTest(size=size, j=j, k=k):
                    with self.assertRaises(NoNumbers):
                        back(rows, sums)
                    doubled = [2 * one for one in sums]
                    self.assertEqual(back(rows, doubled), [int(place in (j, k)) for place in range(size)])

    def test_every_sums_of_two_rows(self):
        for a, b in itertools.product(range(-4, 5), repeat=2):
            with self.subTest(a=a, b=b):
                if (a + b) % 2:
                    with self.assertRaises(NoNumbers):
                        back([[1, 1], [1, -1]], [a, b])
                else:
                    self.assertEqual(back([[1, 1], [1, -1]], [a, b]), [(a + b) // 2, (a - b) // 2])

    def test_every_sums_of_four_rows(self):
        rows = mixed(4, 3)
        whole = {tuple(weighed(rows, list(numbers))) for numbers in itertools.product(range(-5, 6), repeat=4)}
        for sums in itertools.product(range(-2, 3), repeat=4):
            with self.subTest(sums=sums):
                if sums in whole:
                    self.assertEqual(weighed(rows, back(rows, list(sums))), list(sums))
                else:
                    with self.assertRaises(NoNumbers):
                        back(rows, list(sums))

    def test_far_sums(self):
        for number in FAR:
            self.assertEqual(back([[-1]], [number]), [-number])
            self.assertEqual(back([[1, 1], [1, -1]], [number, number]), [number, 0])
            with self.assertRaises(NoNumbers):
                back([[1, 1], [1, -1]], [number, number + 1])


class Refusals(unittest.TestCase):
    def test_more_and_fewer(self):
        for function in (weighed, back):
            for size in SIZES:
                for count in set(range(30)) - {size} | {200, 201}:
                    with self.subTest(function=function, size=size, count=count), self.assertRaises(NoNumbers):
                        function(mixed(size, 1), [0] * count)

    def test_no_square_is_ahead(self):
        for function in (weighed, back):
            for rows in no_squares():
                for numbers in ([], [0], [0] * len(rows), [1] + [0] * len(rows)):
                    with self.subTest(function=function, rows=rows), self.assertRaises(NoSquare):
                        function(rows, numbers)

    def test_no_table_is_ahead(self):
        for function in (weighed, back):
            for rows in no_tables():
                for numbers in ([], [0], [0] * len(rows), [1] + [0] * len(rows), [1] + [0] * (len(rows) - 1)):
                    with self.subTest(function=function, rows=rows), self.assertRaises(NoTable):
                        function(rows, numbers)

    def test_no_square_is_ahead_of_no_table(self):
        for function in (weighed, back):
            with self.assertRaises(NoSquare):
                function([[1, 1], [1, 2]], [1, 2])

    def test_a_table_of_each_size_is_taken(self):
        for size in SIZES:
            self.assertEqual(back(table(size), weighed(table(size), [4] * size)), [4] * size)


if __name__ == "__main__":
    unittest.main()
