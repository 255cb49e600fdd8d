"""Tables of the sizes that are made."""

from plustables.errors import NoSize
from plustables.tables import product

DOUBLED_SIZES = (4, 8, 16, 24)
# Each is one more than a prime that leaves 3 when divided by 4.
BORDERED_SIZES = (12, 20)


def made(size):
    if size == 1:
        return [[1]]
    if size == 2:
        return [[1, 1], [1, -1]]
    if size in DOUBLED_SIZES:
        return product(made(2), made(size // 2))
    if size in BORDERED_SIZES:
        return bordered(size - 1)
    raise NoSize("a table is made of the sizes 1, 2, 4, 8, 12, 16, 20 and 24")


def bordered(prime):
    # With such a prime, of a number and its contrary just one leaves what a square leaves.
    # So two rows of the core have the same in one place less than not, and the border of -1 makes up for it.
    squares = [root * root % prime for root in range(1, prime)]
    rows = [[1] * (prime + 1)]
    for shift in range(prime):
        rows.append([-1] + core_row(prime, squares, shift))
    return rows


def core_row(prime, squares, shift):
    return [1 if place == shift or (place - shift) % prime in squares else -1 for place in range(prime)]
