"""What is counted of squares and tables."""

from plustables.errors import NoMove
from plustables.tables import has_place, need_square, need_table, plain


def determinant(rows):
    need_square(rows)
    square = [list(row) for row in rows]
    sign = 1
    divisor = 1
    while len(square) > 1:
        place = first_place_with_lead(square)
        if place == len(square):
            return 0
        # To the top the row goes past as many rows as its number says, and each one turns the determinant.
        if place % 2 == 1:
            sign = -sign
        leader = square[place]
        others = square[:place] + square[place + 1:]
        square = [without_lead(row, leader, divisor) for row in others]
        divisor = leader[0]
    return sign * square[0][0]


def first_place_with_lead(rows):
    place = 0
    while place < len(rows) and rows[place][0] == 0:
        place = place + 1
    return place


def without_lead(row, leader, divisor):
    # Each of these differences is the divisor times a determinant of some rows and columns of the first square
    # (Bareiss), so nothing is lost by the division, and the numbers stay small.
    return [(leader[0] * row[k] - row[0] * leader[k]) // divisor for k in range(1, len(row))]


def excess(rows):
    need_square(rows)
    return sum([sum(row) for row in rows])


def agree(rows, one, two, three):
    need_table(rows)
    if not all([has_place(rows, number) for number in (one, two, three)]):
        raise NoMove("the three numbers are numbers of rows")
    if one == two or one == three or two == three:
        raise NoMove("the three rows are different ones")
    return len([a for a, b, c in zip(rows[one], rows[two], rows[three]) if a == b == c])


def blocks(rows):
    return [block(row) for row in plain(rows)[1:]]


def block(row):
    return [place for place, number in enumerate(row) if place > 0 and number == 1]
