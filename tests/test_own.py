"""What is handed in stays as it was; what is told is the asker's own."""

import itertools
import unittest

from plustables.errors import PlusError
from plustables.making import made
from plustables.tables import is_square, is_table, plain, product, turned_over

from examples import SIZES, copied, mixed, no_squares, no_tables, table


def lists_of(rows):
    return [rows] + list(rows)


def askings():
    """Functions and what they are handed, of each size."""
    for size in SIZES:
        for rows in (table(size), mixed(size, 4), plain(mixed(size, 2))):
            yield plain, [copied(rows)]
            yield turned_over, [copied(rows)]
            yield product, [copied(rows), [[1]]]
            yield product, [[[1]], copied(rows)]
            yield product, [[[-1]], copied(rows)]
        yield made, [size]
    for m, n in itertools.product(SIZES, repeat=2):
        if m * n <= 24:
            yield product, [mixed(m, 5), mixed(n, 6)]


def handed_lists(handed):
    return [one for rows in handed if isinstance(rows, list) for one in lists_of(rows)]


def kept(handed):
    return [copied(rows) if isinstance(rows, list) else rows for rows in handed]


def spoil(rows):
    for row in rows:
        row[0] = 7
        row.append(9)
    rows.append([5])


class HandedIn(unittest.TestCase):
    def test_it_is_not_changed(self):
        for function, handed in askings():
            before = kept(handed)
            with self.subTest(function=function, handed=before):
                function(*handed)
                self.assertEqual(handed, before)

    def test_its_lists_are_the_same_lists_still(self):
        for function, handed in askings():
            before = [id(one) for one in handed_lists(handed)]
            with self.subTest(function=function):
                function(*handed)
                self.assertEqual([id(one) for one in handed_lists(handed)], before)

    def test_it_is_not_changed_by_is_square_and_is_table(self):
        for rows in [table(size) for size in SIZES] + no_squares() + no_tables():
            before = copied(rows)
            with self.subTest(rows=before):
                is_square(rows)
                is_table(rows)
                self.assertEqual(rows, before)

    def test_it_is_not_changed_where_it_is_refused(self):
        for rows in no_squares() + no_tables():
            before = copied(rows)
            with self.subTest(rows=before):
                for function, handed in (
                    (plain, [rows]), (turned_over, [rows]),
                    (product, [rows, [[1]]]), (product, [[[1]], rows]), (product, [rows, rows]),
                ):
                    with self.assertRaises(PlusError):
                        function(*handed)
                    self.assertEqual(rows, before)

    def test_it_may_be_changed_later(self):
        for function, handed in askings():
            before = kept(handed)
            with self.subTest(function=function, handed=before):
                found = function(*handed)
                first = copied(found)
                for rows in handed:
                    if isinstance(rows, list):
                        spoil(rows)
                self.assertEqual(found, first)
                self.assertEqual(function(*before), first)


class Told(unittest.TestCase):
    def test_no_two_lists_of_it_are_one(self):
        for function, handed in askings():
            with self.subTest(function=function, handed=handed):
                found = lists_of(function(*handed))
                self.assertEqual(len({id(one) for one in found}), len(found))

    def test_none_of_it_was_handed_in(self):
        for function, handed in askings():
            with self.subTest(function=function, handed=handed):
                found = lists_of(function(*handed))
                self.assertFalse({id(one) for one in found} & {id(one) for one in handed_lists(handed)})

    def test_one_table_handed_in_twice(self):
        for rows in ([[1]], [[-1]], [[1, 1], [1, -1]], mixed(4, 1)):
            before = copied(rows)
            with self.subTest(rows=before):
                found = product(rows, rows)
                self.assertEqual(found, product(copied(rows), copied(rows)))
                self.assertFalse({id(one) for one in lists_of(found)} & {id(one) for one in lists_of(rows)})
                spoil(found)
                self.assertEqual(rows, before)

    def test_two_answers_share_no_list(self):
        for function, handed in askings():
            with self.subTest(function=function, handed=handed):
                one = lists_of(function(*handed))
                other = lists_of(function(*handed))
                self.assertFalse({id(a) for a in one} & {id(b) for b in other})

    def test_changing_it_changes_nothing_handed_in_and_no_later_answer(self):
        for function, handed in askings():
            before = kept(handed)
            with self.subTest(function=function, handed=before):
                found = function(*handed)
                first = copied(found)
                spoil(found)
                self.assertEqual(handed, before)
                self.assertEqual(function(*handed), first)

    def test_changing_a_made_table_changes_no_other_size(self):
        first = {size: made(size) for size in SIZES}
        for size in SIZES:
            spoil(made(size))
        self.assertEqual({size: made(size) for size in SIZES}, first)

    def test_it_is_of_lists_and_whole_numbers(self):
        for function, handed in askings():
            with self.subTest(function=function, handed=handed):
                found = function(*handed)
                self.assertTrue(all(type(one) is list for one in lists_of(found)))
                self.assertTrue(all(type(number) is int for row in found for number in row))


if __name__ == "__main__":
    unittest.main()
