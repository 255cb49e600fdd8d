"""told_row."""

import itertools
import random
import unittest

from plustables.errors import NoNumbers, NoSquare, NoTable
from plustables.weighing import told_row

from examples import FAR, SIZES, any_tables, mixed, multiplied, no_squares, no_tables, of_bits, table


def likest(rows, word):
    """Each row and each row turned in its order, by the sum of the products with the word."""
    best = None
    for number, row in enumerate(rows):
        for sign in (1, -1):
            likeness = sign * multiplied(row, word)
            if best is None or likeness > best[0]:
                best = (likeness, (number, sign))
    return best[1]


def words(size, seed):
    chance = random.Random(seed)
    if size <= 4:
        yield from (list(word) for word in itertools.product((1, -1), repeat=size))
    else:
        yield from ([chance.choice((1, -1)) for _ in range(size)] for _ in range(40))


def spoiled(row, places):
    return [-number if place in places else number for place, number in enumerate(row)]


class ToldRow(unittest.TestCase):
    def test_one_row(self):
        self.assertEqual(told_row([[1]], [1]), (0, 1))
        self.assertEqual(told_row([[1]], [-1]), (0, -1))
        self.assertEqual(told_row([[-1]], [1]), (0, -1))
        self.assertEqual(told_row([[-1]], [-1]), (0, 1))

    def test_two_rows(self):
        rows = [[1, 1], [1, -1]]
        self.assertEqual(told_row(rows, [1, 1]), (0, 1))
        self.assertEqual(told_row(rows, [-1, -1]), (0, -1))
        self.assertEqual(told_row(rows, [1, -1]), (1, 1))
        self.assertEqual(told_row(rows, [-1, 1]), (1, -1))

    def test_each_row_as_it_is_and_turned(self):
        for rows in any_tables():
            for number, row in enumerate(rows):
                with self.subTest(rows=rows, number=number):
                    self.assertEqual(told_row(rows, list(row)), (number, 1))
                    self.assertEqual(told_row(rows, [-place for place in row]), (number, -1))

    def test_it_is_a_tuple_of_two_whole_numbers(self):
        for rows in any_tables():
            found = told_row(rows, [-place for place in rows[-1]])
            self.assertIs(type(found), tuple)
            self.assertEqual([type(number) for number in found], [int, int])

    def test_fewer_than_a_quarter_of_the_places_turned(self):
        for size in SIZES:
            rows = mixed(size, 4)
            most = (size - 1) // 4
            chance = random.Random(size)
            for number, count in itertools.product(range(size), range(most + 1)):
                for _ in range(3):
                    places = chance.sample(range(size), count)
                    word = spoiled(rows[number], places)
                    with self.subTest(size=size, number=number, places=places):
                        self.assertEqual(told_row(rows, word), (number, 1))
                        self.assertEqual(told_row(rows, [-place for place in word]), (number, -1))

    def test_most_alike_wins(self):
        for rows in any_tables():
            for word in words(len(rows), 9):
                with self.subTest(rows=rows, word=word):
                    self.assertEqual(told_row(rows, word), likest(rows, word))

    def test_of_several_the_least_number(self):
        rows = of_bits(4)
        # Each of these is alike in three places to all four rows, some of them turned.
        self.assertEqual(told_row(rows, [1, 1, 1, -1]), (0, 1))
        self.assertEqual(told_row(rows, [-1, 1, 1, 1]), (0, 1))
        self.assertEqual(told_row(rows[::-1], [1, 1, 1, -1]), (0, -1))
        self.assertEqual(told_row(rows[::-1], [-1, -1, -1, 1]), (0, 1))

    def test_of_several_a_turned_row_of_a_lesser_number_is_ahead_of_a_greater_one_as_it_is(self):
        rows = [[-1, -1, -1, -1], [1, -1, 1, -1], [1, 1, -1, -1], [1, -1, -1, 1]]
        self.assertEqual(told_row(rows, [1, 1, 1, -1]), (0, -1))
        self.assertEqual(told_row(rows, [-1, -1, -1, 1]), (0, 1))

    def test_of_several_behind_the_first_row(self):
        rows = of_bits(8)
        word = [-1, 1, 1, 1, 1, 1, 1, -1]
        self.assertEqual([multiplied(row, word) for row in rows], [4, 0, 0, -4, 0, -4, -4, 0])
        self.assertEqual(told_row(rows, word), (0, 1))
        self.assertEqual(told_row(rows[1:] + rows[:1], word), (2, -1))
        self.assertEqual(told_row(rows[::-1], word), (1, -1))


class Refusals(unittest.TestCase):
    def test_too_long_too_short_empty(self):
        for size in SIZES:
            for count in set(range(30)) - {size} | {200, 201}:
                with self.subTest(size=size, count=count), self.assertRaises(NoNumbers):
                    told_row(mixed(size, 1), [1] * count)

    def test_another_number_in_any_place(self):
        for size in SIZES:
            for number, place in itertools.product((0, 2, -2, 3) + FAR, range(size)):
                word = list(table(size)[0])
                word[place] = number
                with self.subTest(size=size, word=word), self.assertRaises(NoNumbers):
                    told_row(table(size), word)

    def test_no_square_is_ahead(self):
        for rows in no_squares():
            for word in ([], [1], [0], [1] * len(rows), [2] * len(rows)):
                with self.subTest(rows=rows, word=word), self.assertRaises(NoSquare):
                    told_row(rows, word)

    def test_no_table_is_ahead(self):
        for rows in no_tables():
            for word in ([], [1], [0], [1] * len(rows), [2] * len(rows)):
                with self.subTest(rows=rows, word=word), self.assertRaises(NoTable):
                    told_row(rows, word)


if __name__ == "__main__":
    unittest.main()
