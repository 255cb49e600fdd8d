"""What is handed in stays as it was; what is told is the asker's own."""

import copy
import itertools
import unittest

from plustables.counts import agree, blocks, determinant, excess
from plustables.errors import PlusError
from plustables.making import made
from plustables.moves import led, moved
from plustables.notes import read, shown
from plustables.tables import is_square, is_table, plain, product, turned_over
from plustables.weighing import back, told_row, weighed

from examples import SIZES, any_square, copied, mixed, no_squares, no_tables, table


def lists_of(value):
    """The lists that a value is and holds."""
    if not isinstance(value, (list, tuple)):
        return []
    inner = [one for held in value for one in lists_of(held)]
    return [value] + inner if isinstance(value, list) else inner


def identities(value):
    return {id(one) for one in lists_of(value)}


def askings():
    """Functions and what they are handed, of each size."""
    for size in SIZES:
        for rows in (table(size), mixed(size, 4), plain(mixed(size, 2))):
            yield from askings_of_a_table(rows)
            yield from askings_of_a_square(rows)
        yield made, [size]
    for size in range(1, 25):
        yield from askings_of_a_square(any_square(size, 1))
    for m, n in itertools.product(SIZES, repeat=2):
        if m * n <= 24:
            yield product, [mixed(m, 5), mixed(n, 6)]
    for size, seed in itertools.product((1, 2, 4, 8), range(3)):
        yield led, [mixed(size, seed), mixed(size, 7)]


def askings_of_a_table(rows):
    size = len(rows)
    yield plain, [copied(rows)]
    yield turned_over, [copied(rows)]
    yield product, [copied(rows), [[1]]]
    yield product, [[[1]], copied(rows)]
    yield product, [[[-1]], copied(rows)]
    yield weighed, [copied(rows), list(range(size))]
    yield weighed, [copied(rows), [0] * size]
    yield back, [copied(rows), weighed(rows, list(range(size)))]
    yield back, [copied(rows), [0] * size]
    yield told_row, [copied(rows), list(rows[-1])]
    yield told_row, [copied(rows), [1] * size]
    if size >= 4:
        yield agree, [copied(rows), 2, 0, size - 1]
    yield blocks, [copied(rows)]


def askings_of_a_square(rows):
    size = len(rows)
    last = size - 1
    yield is_square, [copied(rows)]
    yield is_table, [copied(rows)]
    yield moved, [copied(rows), []]
    yield moved, [copied(rows), [("row", 0)]]
    yield moved, [copied(rows), [("column", last)]]
    if size > 1:
        yield moved, [copied(rows), [("rows", 0, last)]]
        yield moved, [copied(rows), [("columns", 0, last)]]
        yield moved, [copied(rows), [("rows", 0, last), ("row", last), ("columns", 0, 1), ("column", 0)]]
    yield determinant, [copied(rows)]
    yield excess, [copied(rows)]
    yield shown, [copied(rows)]
    yield read, [shown(rows)]


def refused_askings(rows):
    """What asks of a square and of a table, handed one that is none."""
    for function in (plain, turned_over, blocks):
        yield function, [rows]
    for function in (product, led):
        yield function, [rows, [[1]]]
        yield function, [[[1]], rows]
        yield function, [rows, rows]
    for function in (weighed, back, told_row):
        yield function, [rows, [1] * len(rows)]
    yield agree, [rows, 0, 1, 2]


def spoil(value):
    for one in lists_of(value):
        if one and not isinstance(one[0], list):
            one[0] = 7
        one.append(9)


class HandedIn(unittest.TestCase):
    def test_every_function_is_asked(self):
        asked = {function for function, _ in askings()}
        self.assertEqual(asked, {
            is_square, is_table, plain, turned_over, product, made, moved, led, weighed, back, told_row,
            determinant, excess, agree, blocks, shown, read,
        })

    def test_it_is_not_changed(self):
        for function, handed in askings():
            before = copy.deepcopy(handed)
            with self.subTest(function=function, handed=before):
                function(*handed)
                self.assertEqual(handed, before)

    def test_its_lists_are_the_same_lists_still(self):
        for function, handed in askings():
            before = [id(one) for one in lists_of(handed)]
            with self.subTest(function=function):
                function(*handed)
                self.assertEqual([id(one) for one in lists_of(handed)], before)

    def test_it_is_not_changed_where_no_square_is_asked_of(self):
        for rows in no_squares() + no_tables():
            before = copied(rows)
            with self.subTest(rows=before):
                is_square(rows)
                is_table(rows)
                self.assertEqual(rows, before)

    def test_it_is_not_changed_where_it_is_refused(self):
        for rows in no_squares() + no_tables():
            before = copied(rows)
            with self.subTest(rows=before):
                for function, handed in refused_askings(rows):
                    with self.assertRaises(PlusError):
                        function(*handed)
                    self.assertEqual(rows, before)

    def test_it_is_not_changed_where_what_stands_behind_it_is_refused(self):
        cases = [
            (moved, [any_square(5, 1), [("row", 0), ("columns", 1, 3), ("row", 5)]]),
            (moved, [any_square(5, 1), [("rows", 0, 4), ("rows", 4, 0)]]),
            (led, [mixed(4, 1), mixed(8, 1)]), (led, [mixed(12, 1), mixed(12, 2)]),
            (weighed, [mixed(4, 1), [1, 2, 3]]), (back, [mixed(4, 1), [1, 2, 3, 4, 5]]),
            (back, [mixed(4, 1), [1, 0, 0, 0]]), (told_row, [mixed(4, 1), [1, 1, 1, 0]]),
            (agree, [mixed(4, 1), 0, 1, 4]),
        ]
        for function, handed in cases:
            before = copy.deepcopy(handed)
            with self.subTest(function=function, handed=before):
                with self.assertRaises(PlusError):
                    function(*handed)
                self.assertEqual(handed, before)

    def test_it_may_be_changed_later(self):
        for function, handed in askings():
            before = copy.deepcopy(handed)
            with self.subTest(function=function, handed=before):
                found = function(*handed)
                first = copy.deepcopy(found)
                spoil(handed)
                self.assertEqual(found, first)
                self.assertEqual(function(*before), first)


class Told(unittest.TestCase):
    def test_no_two_lists_of_it_are_one(self):
        for function, handed in askings():
            with self.subTest(function=function, handed=handed):
                found = function(*handed)
                self.assertEqual(len(identities(found)), len(lists_of(found)))

    def test_none_of_it_was_handed_in(self):
        for function, handed in askings():
            with self.subTest(function=function, handed=handed):
                found = function(*handed)
                self.assertFalse(identities(found) & identities(handed))

    def test_one_table_handed_in_twice(self):
        for rows in ([[1]], [[-1]], [[1, 1], [1, -1]], mixed(4, 1)):
            before = copied(rows)
            for function in (product, led):
                with self.subTest(function=function, rows=before):
                    found = function(rows, rows)
                    self.assertEqual(found, function(copied(rows), copied(rows)))
                    self.assertFalse(identities(found) & identities(rows))
                    spoil(found)
                    self.assertEqual(rows, before)

    def test_a_square_whose_rows_are_one_list(self):
        row = [1, -1, 1]
        rows = [row, row, row]
        cases = [
            ([], [[1, -1, 1], [1, -1, 1], [1, -1, 1]]),
            ([("row", 1)], [[1, -1, 1], [-1, 1, -1], [1, -1, 1]]),
            ([("column", 1)], [[1, 1, 1], [1, 1, 1], [1, 1, 1]]),
            ([("rows", 0, 2)], [[1, -1, 1], [1, -1, 1], [1, -1, 1]]),
        ]
        for moves, wanted in cases:
            with self.subTest(moves=moves):
                found = moved(rows, moves)
                self.assertEqual(found, wanted)
                self.assertEqual(len(identities(found)), 4)
                self.assertFalse(identities(found) & identities(rows))
                self.assertEqual(rows, [[1, -1, 1]] * 3)
        self.assertEqual(determinant(rows), 0)
        self.assertEqual(rows, [[1, -1, 1]] * 3)

    def test_a_row_handed_in_as_numbers_too(self):
        rows = mixed(8, 1)
        before = copied(rows)
        self.assertEqual(weighed(rows, rows[2]), [0, 0, 8, 0, 0, 0, 0, 0])
        self.assertEqual(told_row(rows, rows[2]), (2, 1))
        self.assertEqual(rows, before)

    def test_two_answers_share_no_list(self):
        for function, handed in askings():
            with self.subTest(function=function, handed=handed):
                one = function(*handed)
                other = function(*handed)
                self.assertFalse(identities(one) & identities(other))

    def test_changing_it_changes_nothing_handed_in_and_no_later_answer(self):
        for function, handed in askings():
            before = copy.deepcopy(handed)
            with self.subTest(function=function, handed=before):
                found = function(*handed)
                first = copy.deepcopy(found)
                spoil(found)
                self.assertEqual(handed, before)
                self.assertEqual(function(*handed), first)

    def test_changing_a_made_table_changes_no_other_size(self):
        first = {size: made(size) for size in SIZES}
        for size in SIZES:
            spoil(made(size))
        self.assertEqual({size: made(size) for size in SIZES}, first)

    def test_it_is_of_its_kind(self):
        kinds = {
            is_square: bool, is_table: bool, told_row: tuple, determinant: int, excess: int, agree: int, shown: str,
        }
        for function, handed in askings():
            with self.subTest(function=function, handed=handed):
                self.assertIs(type(function(*handed)), kinds.get(function, list))

    def test_tables_and_squares_are_of_lists_and_whole_numbers(self):
        for function, handed in askings():
            if function in (plain, turned_over, product, made, moved, blocks, read):
                with self.subTest(function=function, handed=handed):
                    found = function(*handed)
                    self.assertTrue(all(type(row) is list for row in found))
                    self.assertTrue(all(type(number) is int for row in found for number in row))

    def test_lists_of_numbers_are_of_whole_numbers(self):
        for function, handed in askings():
            if function in (weighed, back):
                self.assertTrue(all(type(number) is int for number in function(*handed)))


if __name__ == "__main__":
    unittest.main()
