"""What a square and a table are, and the tables that come of other tables."""

from plustables.errors import NoSquare, NoTable, TooGreat

MOST_ROWS = 24


def is_square(rows):
    size = len(rows)
    return 1 <= size <= MOST_ROWS and all([is_row(row, size) for row in rows])


def is_row(row, size):
    return len(row) == size and all([number in (1, -1) for number in row])


def is_table(rows):
    return is_square(rows) and all_balanced(rows)


def all_balanced(rows):
    for later in range(len(rows)):
        for earlier in range(later):
            if not balanced(rows[earlier], rows[later]):
                return False
    return True


def balanced(one_row, other_row):
    return 2 * places_alike(one_row, other_row) == len(one_row)


def places_alike(one_row, other_row):
    return len([a for a, b in zip(one_row, other_row) if a == b])


def has_place(rows, place):
    return 0 <= place < len(rows)


def need_square(rows):
    if not is_square(rows):
        raise NoSquare("a square has 1 to 24 rows, each of as many numbers, each 1 or -1")


def need_table(rows):
    need_square(rows)
    if not all_balanced(rows):
        raise NoTable("each two rows of a table are balanced")


def plain(rows):
    need_table(rows)
    # The rows are looked at only when the columns are turned: that may change a row's first number.
    columns_turned = [turned_at(row, rows[0]) for row in rows]
    return [turned(row) if row[0] == -1 else row for row in columns_turned]


def turned(row):
    return [-number for number in row]


def turned_at(row, signs):
    return [number * sign for number, sign in zip(row, signs)]


def turned_over(rows):
    need_table(rows)
    return all_columns(rows)


def all_columns(rows):
    return [column(rows, place) for place in range(len(rows))]


def column(rows, place):
    return [row[place] for row in rows]


def product(one, other):
    need_table(one)
    need_table(other)
    if len(one) * len(other) > MOST_ROWS:
        raise TooGreat("a product has at most 24 rows")
    rows = []
    for one_row in one:
        rows.extend([side_by_side(one_row, other_row) for other_row in other])
    return rows


def side_by_side(one_row, other_row):
    row = []
    for number in one_row:
        row.extend(other_row if number == 1 else turned(other_row))
    return row
