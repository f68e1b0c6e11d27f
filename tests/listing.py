"""What the tests hold the program against: tables listed one by one, without the program's help."""

import itertools
import math

FREE = (0, 40)

BAD_SUMS = [
    ([], []),
    ([], [0]),
    ([0], []),
    ([1] * 5, [5]),
    ([0] * 5, [0]),
    ([7], [1] * 7),
    ([0], [0] * 7),
    ([2, -1], [1]),
    ([1], [2, -1]),
    ([-1], [-1]),
    ([2, -1], [-1, 2]),
    ([1, 1], [1]),
    ([1], [1, 1]),
    ([0], [1]),
    ([3, 4], [4, 4]),
    ([41], [41]),
    ([20, 21], [1, 40]),
    ([40, 0], [41]),
]


def columns_of(rows):
    return [list(column) for column in zip(*rows)]


def all_free(rows, columns):
    return [[FREE] * columns for row in range(rows)]


def ways_of(parts):
    told = math.factorial(sum(parts))
    for part in parts:
        told //= math.factorial(part)
    return told


def all_columns(rows, many):
    """All counts of so many rows with that sum, from the first row on, the lesser first."""
    return [counts for counts in itertools.product(range(many + 1), repeat=rows) if sum(counts) == many]


def all_tables(rowsums, columnsums, bounds=None):
    """All tables, as rows, in their order: by the first column's counts, then by the second's."""
    bounds = bounds or all_free(len(rowsums), len(columnsums))
    told = []
    for columns in itertools.product(*[all_columns(len(rowsums), many) for many in columnsums]):
        rows = [list(row) for row in zip(*columns)]
        if [sum(row) for row in rows] == list(rowsums) and kept(rows, bounds):
            told.append(rows)
    return told


def kept(rows, bounds):
    return all(
        low <= count <= high
        for counts, pairs in zip(rows, bounds)
        for count, (low, high) in zip(counts, pairs)
    )


def dealings_of(rows):
    return math.prod(ways_of(column) for column in columns_of(rows))


def sums_of(rows):
    return [sum(row) for row in rows], [sum(column) for column in columns_of(rows)]


def drawn_sums(chance, rows, columns, many):
    """Row sums and column sums of so many things, laid one by one at random."""
    rowsums, columnsums = [0] * rows, [0] * columns
    for thing in range(many):
        rowsums[chance.randrange(rows)] += 1
        columnsums[chance.randrange(columns)] += 1
    return rowsums, columnsums


def drawn_bounds(chance, rows, columns, many):
    """Bounds of which some are free, some bar, some ask for things."""
    def pair():
        low = chance.choice([0, 0, 0, 0, 0, 1, 1, 2])
        return chance.choice([FREE, FREE, (low, low + chance.randrange(many + 1)), (0, chance.randrange(3)), (0, 0)])
    return [[pair() for column in range(columns)] for row in range(rows)]
