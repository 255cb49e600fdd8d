"""The error classes, and that each refusal is of its own class."""

import unittest

from plustables import errors
from plustables.making import made
from plustables.tables import plain, product, turned_over

from examples import table

NAMES = ("NoSquare", "NoTable", "NoSize", "NoMove", "Unlike", "TooGreat", "NoNumbers", "NoNote")


class Classes(unittest.TestCase):
    def test_plus_error_is_straight_under_value_error(self):
        self.assertEqual(errors.PlusError.__bases__, (ValueError,))
        self.assertEqual(errors.PlusError.__name__, "PlusError")

    def test_each_class_is_straight_under_plus_error(self):
        for name in NAMES:
            with self.subTest(name=name):
                found = getattr(errors, name)
                self.assertEqual(found.__bases__, (errors.PlusError,))
                self.assertEqual(found.__name__, name)

    def test_no_two_names_are_one_class(self):
        self.assertEqual(len({getattr(errors, name) for name in NAMES}), len(NAMES))

    def test_each_class_is_raised_and_taken(self):
        for name in NAMES:
            with self.subTest(name=name), self.assertRaises(errors.PlusError) as caught:
                raise getattr(errors, name)("words")
            self.assertEqual(str(caught.exception), "words")


class Refusals(unittest.TestCase):
    def test_each_refusal_is_of_its_own_class(self):
        cases = [
            (errors.NoSquare, plain, ([],)),
            (errors.NoTable, plain, ([[1, 1], [1, 1]],)),
            (errors.NoSquare, turned_over, ([[1], [1]],)),
            (errors.NoTable, turned_over, ([[1, 1], [-1, -1]],)),
            (errors.NoSquare, product, ([[0]], [[1]])),
            (errors.NoTable, product, ([[1]], [[1, 1], [1, 1]])),
            (errors.TooGreat, product, (table(8), table(4))),
            (errors.NoSize, made, (3,)),
        ]
        for wanted, function, handed in cases:
            with self.subTest(wanted=wanted, function=function):
                with self.assertRaises(errors.PlusError) as caught:
                    function(*handed)
                self.assertIs(type(caught.exception), wanted)


if __name__ == "__main__":
    unittest.main()
