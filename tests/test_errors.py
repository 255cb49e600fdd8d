"""The error classes, and that each refusal is of its own class."""

import unittest

from plustables import errors
from plustables.counts import agree, blocks, determinant, excess
from plustables.making import made
from plustables.moves import led, moved
from plustables.notes import read, shown
from plustables.tables import plain, product, turned_over
from plustables.weighing import back, told_row, weighed

from examples import table

NAMES = ("NoSquare", "NoTable", "NoSize", "NoMove", "Unlike", "TooGreat", "NoNumbers", "NoNote")


class Classes(unittest.TestCase):
    def test_plus_error_is_straight_under_value_error(self):
        self.assertEqual(errors.PlusError.__bases__, (ValueError,))
        self.assertEqual(errors.PlusError.__name__, "PlusError")

    def test_each_class_is_straight_under_plus_error(self):
        for name in NAMES:
            with self.subTest(name=name):
                found = getattr(errors, name)
                self.assertEqual(found.__bases__, (errors.PlusError,))
                self.assertEqual(found.__name__, name)

    def test_no_two_names_are_one_class(self):
        self.assertEqual(len({getattr(errors, name) for name in NAMES}), len(NAMES))

    def test_each_class_is_raised_and_taken(self):
        for name in NAMES:
            with self.subTest(name=name), self.assertRaises(errors.PlusError) as caught:
                raise getattr(errors, name)("words")
            self.assertEqual(str(caught.exception), "words")


NO_SQUARE = [[1, 1], [1, 0]]
NO_TABLE = [[1, 1], [1, 1]]
# What each function is handed behind its first square or table, the one thing right and the other wrong.
BEHIND_A_SQUARE = ((moved, ([],), ([("row", -1)],)), (determinant, (), ()), (excess, (), ()), (shown, (), ()))
BEHIND_A_TABLE = (
    (plain, (), ()), (turned_over, (), ()), (product, ([[1]],), ([],)), (led, (table(2),), (table(4),)),
    (led, (table(2),), (NO_SQUARE,)), (led, (table(2),), (NO_TABLE,)), (weighed, ([1, 2],), ([1],)),
    (back, ([2, 2],), ([2, 1],)), (told_row, ([1, 1],), ([1, 2],)), (agree, (0, 1, 2), (0, 0, 9)), (blocks, (), ()),
)


class Refusals(unittest.TestCase):
    def test_no_square_and_no_table_are_ahead_of_all_else(self):
        for function, right, wrong in BEHIND_A_SQUARE + BEHIND_A_TABLE:
            for handed in (right, wrong):
                with self.subTest(function=function, handed=handed):
                    self.refused(errors.NoSquare, function, (NO_SQUARE,) + handed)
        for function, right, wrong in BEHIND_A_TABLE:
            for handed in (right, wrong):
                with self.subTest(function=function, handed=handed):
                    self.refused(errors.NoTable, function, (NO_TABLE,) + handed)

    def test_where_a_square_is_wanted_a_square_that_is_no_table_is_taken(self):
        for function, right, _ in BEHIND_A_SQUARE:
            with self.subTest(function=function):
                function(NO_TABLE, *right)

    def refused(self, wanted, function, handed):
        with self.assertRaises(errors.PlusError) as caught:
            function(*handed)
        self.assertIs(type(caught.exception), wanted)

    def test_each_refusal_is_of_its_own_class(self):
        cases = [
            (errors.NoSquare, plain, ([],)),
            (errors.NoTable, plain, ([[1, 1], [1, 1]],)),
            (errors.NoSquare, turned_over, ([[1], [1]],)),
            (errors.NoTable, turned_over, ([[1, 1], [-1, -1]],)),
            (errors.NoSquare, product, ([[0]], [[1]])),
            (errors.NoTable, product, ([[1]], [[1, 1], [1, 1]])),
            (errors.TooGreat, product, (table(8), table(4))),
            (errors.NoSize, made, (3,)),
            (errors.NoMove, moved, ([[1]], [("row", 1)])),
            (errors.NoMove, moved, (NO_TABLE, [("columns", 1, 1)])),
            (errors.Unlike, led, (table(2), table(4))),
            (errors.Unlike, led, (table(12), table(24))),
            (errors.TooGreat, led, (table(12), table(12))),
            (errors.NoSquare, led, (table(2), NO_SQUARE)),
            (errors.NoTable, led, (table(2), NO_TABLE)),
            (errors.NoNumbers, weighed, (table(2), [1])),
            (errors.NoNumbers, back, (table(2), [1, 1, 1])),
            (errors.NoNumbers, back, (table(2), [1, 2])),
            (errors.NoNumbers, told_row, (table(2), [1])),
            (errors.NoNumbers, told_row, (table(2), [1, 0])),
            (errors.NoMove, agree, (table(4), 0, 1, 4)),
            (errors.NoMove, agree, (table(4), 0, 1, 1)),
            (errors.NoNote, read, ("",)),
            (errors.NoNote, read, ("+\n",)),
        ]
        for wanted, function, handed in cases:
            with self.subTest(wanted=wanted, function=function):
                self.refused(wanted, function, handed)


if __name__ == "__main__":
    unittest.main()
