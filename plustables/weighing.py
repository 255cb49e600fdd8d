"""Numbers weighed by a table, the numbers back from their sums, and the row that a spoiled one was."""

from plustables.errors import NoNumbers
from plustables.tables import all_columns, is_row, need_table, places_alike, turned, turned_at


def weighed(rows, numbers):
    need_table(rows)
    need_as_many(rows, numbers)
    return sums_by_rows(rows, numbers)


def need_as_many(rows, numbers):
    if len(numbers) != len(rows):
        raise NoNumbers("there are as many numbers as the table has rows")


def sums_by_rows(rows, numbers):
    return [sum(turned_at(numbers, row)) for row in rows]


def back(rows, sums):
    need_table(rows)
    need_as_many(rows, sums)
    size = len(rows)
    # A table's columns are balanced too: weighed by them, the sums give each number as many times as there are rows.
    multiples = sums_by_rows(all_columns(rows), sums)
    if any([multiple % size != 0 for multiple in multiples]):
        raise NoNumbers("the sums come of no whole numbers")
    return [multiple // size for multiple in multiples]


def told_row(rows, word):
    need_table(rows)
    if not is_row(word, len(rows)):
        raise NoNumbers("a word has as many numbers as the table has rows, each 1 or -1")
    best = (0, 1)
    most = places_alike(rows[0], word)
    for number, row in enumerate(rows):
        # Only more places win, so of several the first one asked stays.
        for sign, candidate in ((1, row), (-1, turned(row))):
            alike = places_alike(candidate, word)
            if alike > most:
                best = (number, sign)
                most = alike
    return best
