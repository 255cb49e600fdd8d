"""made."""

import itertools
import unittest

from plustables.errors import NoSize
from plustables.making import made
from plustables.tables import is_table

from examples import FAR, SIZES


class Made(unittest.TestCase):
    def test_each_size_row_by_row(self):
        for size in SIZES:
            with self.subTest(size=size):
                rows = made(size)
                self.assertIs(type(rows), list)
                self.assertEqual(len(rows), size)
                for row in rows:
                    self.assertIs(type(row), list)
                    self.assertEqual(len(row), size)
                    for number in row:
                        self.assertIs(type(number), int)
                        self.assertIn(number, (1, -1))
                for one_row, other_row in itertools.combinations(rows, 2):
                    same = sum(a == b for a, b in zip(one_row, other_row))
                    self.assertEqual(2 * same, size)

    def test_each_size_is_a_table(self):
        for size in SIZES:
            with self.subTest(size=size):
                self.assertIs(is_table(made(size)), True)

    def test_the_same_each_time(self):
        for size in SIZES:
            with self.subTest(size=size):
                self.assertEqual(made(size), made(size))

    def test_every_other_size_is_refused(self):
        for size in range(-300, 301):
            if size in SIZES:
                continue
            with self.subTest(size=size), self.assertRaises(NoSize):
                made(size)

    def test_far_sizes_are_refused(self):
        far = FAR + tuple(2 ** k for k in range(5, 100)) + tuple(-size for size in SIZES)
        far += tuple(3 * 2 ** k for k in range(4, 98)) + (10 ** 40, -(10 ** 40))
        for size in far:
            with self.subTest(size=size):
                if size in SIZES:
                    self.fail("a size that is made stands among the far ones")
                with self.assertRaises(NoSize):
                    made(size)


if __name__ == "__main__":
    unittest.main()
