"""Tables for the tests, built otherwise than the program builds them."""

import itertools
import random

SIZES = (1, 2, 4, 8, 12, 16, 20, 24)

# What the squares of 1, 2, 3 .. leave when divided by the prime.
RESIDUES = {
    7: (1, 2, 4),
    11: (1, 3, 4, 5, 9),
    19: (1, 4, 5, 6, 7, 9, 11, 16, 17),
    23: (1, 2, 3, 4, 6, 8, 9, 12, 13, 16, 18),
}

FAR = (10 ** 30 - 1, 1 - 10 ** 30, 10 ** 29, -(10 ** 29), 2 ** 64 + 1, -(2 ** 64) - 1, 2 ** 32 + 1)


def of_bits(size):
    return [[(-1) ** bin(i & j).count("1") for j in range(size)] for i in range(size)]


def of_residues(prime):
    core = [
        [-1 if i == j or (j - i) % prime in RESIDUES[prime] else 1 for j in range(prime)]
        for i in range(prime)
    ]
    return [[1] * (prime + 1)] + [[1] + row for row in core]


def table(size):
    return of_residues(size - 1) if size in (12, 20, 24) else of_bits(size)


def mixed(size, seed):
    """A table whose rows and columns are turned and changed about, in an order that hangs on the seed alone."""
    rows = table(size)
    steps = [step for step in range(1, size + 1) if coprime(step, size)]
    step = steps[seed % len(steps)]
    rows = [rows[(seed + step * i) % size] for i in range(size)]
    rows = [[row[(3 * seed + step * j) % size] for j in range(size)] for row in rows]
    return [
        [number * sign(seed, i) * sign(seed + 5, j) for j, number in enumerate(row)]
        for i, row in enumerate(rows)
    ]


def shuffled(rows, seed):
    """The rows and columns in any order, some turned; the same each time for one seed."""
    chance = random.Random(seed)
    size = len(rows)
    columns = chance.sample(range(size), size)
    signs = [chance.choice((1, -1)) for _ in range(size)]
    found = []
    for i in chance.sample(range(size), size):
        row_sign = chance.choice((1, -1))
        found.append([rows[i][j] * signs[j] * row_sign for j in columns])
    return found


def any_square(size, seed):
    chance = random.Random(seed)
    return [[chance.choice((1, -1)) for _ in range(size)] for _ in range(size)]


def any_tables():
    """Tables of every size, the small ones all."""
    yield from all_squares(1)
    yield from (rows for rows in all_squares(2) if looks_like_table(rows))
    for size in SIZES:
        yield from (shuffled(table(size), seed) for seed in range(8))
    yield of_residues(7)


def any_squares():
    """Squares of every size, among them tables and squares that are none."""
    for size in range(1, 25):
        yield from (any_square(size, seed) for seed in range(4))
    yield from any_tables()


def coprime(one, other):
    while other:
        one, other = other, one % other
    return one == 1


def sign(seed, place):
    return -1 if (seed * 7 + place * place * 5 + place * (seed + 3)) % 11 < 5 else 1


def copied(rows):
    return [list(row) for row in rows]


def multiplied(one_row, other_row):
    return sum(a * b for a, b in zip(one_row, other_row))


def looks_like_table(rows):
    """What a table is, asked by sums of products rather than by places that are the same."""
    size = len(rows)
    if any(len(row) != size for row in rows):
        return False
    if any(number not in (1, -1) for row in rows for number in row):
        return False
    return all(multiplied(a, b) == 0 for a, b in itertools.combinations(rows, 2))


def all_squares(size):
    for numbers in itertools.product((1, -1), repeat=size * size):
        yield [list(numbers[size * i:size * i + size]) for i in range(size)]


def all_tables_of_four():
    rows = [list(row) for row in itertools.product((1, -1), repeat=4)]
    for four in itertools.permutations(rows, 4):
        if looks_like_table(four):
            yield copied(four)


def no_squares():
    """Lists of lists of numbers that are no squares."""
    found = [
        [], [[]], [[], []], [[1, 1]], [[1], [1]], [[1], []], [[], [1]],
        [[1, 1], [1]], [[1], [1, -1]], [[1, 1], [1, -1, 1]], [[1, 1, 1], [1, -1]],
        [[1, 1], [1, -1], [1, 1]], [[1, 1], [1, -1], []], [[1, 1, 1], [1, -1, 1]],
        [[0]], [[2]], [[-2]], [[0, 0], [0, 0]], [[1, 1], [0, 0]], [[2, 2], [2, -2]], [[3, 3], [3, -3]],
        of_bits(32), [[1] * 200 for _ in range(200)], [[] for _ in range(24)], [[1]] * 24,
    ]
    found.extend([[number]] for number in FAR)
    for size in SIZES:
        found.extend(spoiled_in_form(size))
    found.extend([[1] * size for _ in range(size)] for size in (25, 26, 28, 40))
    found.extend([[[1] * 24 for _ in range(25)], [[1] * 25 for _ in range(24)]])
    return found


def spoiled_in_form(size):
    for number in (0, 2, -2, 3) + FAR:
        for i, j in {(0, 0), (0, size - 1), (size - 1, 0), (size - 1, size - 1), (size // 2, size // 3)}:
            rows = table(size)
            rows[i][j] = number
            yield rows
    for i in {0, size // 2, size - 1}:
        longer = table(size)
        longer[i].append(1)
        yield longer
        shorter = table(size)
        shorter[i].pop()
        yield shorter
        empty = table(size)
        empty[i] = []
        yield empty
    yield table(size) + [[1] * size]
    if size > 1:
        yield table(size)[:-1]
        yield [row[:-1] for row in table(size)]
    yield [row + [1] for row in table(size)]


def no_tables():
    """Squares that are no tables."""
    found = [[[1] * size for _ in range(size)] for size in range(2, 25)]
    found.extend([[-1] * size for _ in range(size)] for size in range(2, 25))
    # Of four rows these would be a table.
    found.extend(
        [[-1 if i == j else 1 for j in range(size)] for i in range(size)]
        for size in range(3, 25) if size != 4
    )
    for size in SIZES[1:]:
        found.extend(spoiled_in_balance(size))
    return found


def spoiled_in_balance(size):
    for i, j in {(0, 0), (0, size - 1), (size - 1, 0), (size - 1, size - 1), (size // 2, size // 3)}:
        rows = table(size)
        rows[i][j] *= -1
        yield rows
    for i, j in {(0, 1), (0, size - 1), (size - 2, size - 1)}:
        rows = table(size)
        rows[j] = list(rows[i])
        yield rows
        rows = table(size)
        rows[j] = [-number for number in rows[i]]
        yield rows
