"""Squares written as texts, and read again."""

from plustables.errors import NoNote
from plustables.tables import is_square, need_square

NUMBERS = {"+": 1, "-": -1}


def shown(rows):
    need_square(rows)
    return "\n".join([shown_row(row) for row in rows])


def shown_row(row):
    return "".join(["+" if number == 1 else "-" for number in row])


def read(text):
    rows = [read_row(line) for line in text.split("\n")]
    if not is_square(rows):
        raise NoNote("a note has 1 to 24 rows, each of as many signs, each + or -")
    return rows


def read_row(line):
    # No square has nought, so that every other sign is refused.
    return [NUMBERS.get(sign, 0) for sign in line]
