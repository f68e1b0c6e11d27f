"""What the tests hold the program against: tables listed one by one, without the program's help."""

import fractions
import itertools
import math
import random

FREE = (0, 40)

BAD_SUMS = [
    ([], []),
    ([], [0]),
    ([0], []),
    ([1] * 5, [5]),
    ([0] * 5, [0]),
    ([7], [1] * 7),
    ([0], [0] * 7),
    ([2, -1], [1]),
    ([1], [2, -1]),
    ([-1], [-1]),
    ([2, -1], [-1, 2]),
    ([1, 1], [1]),
    ([1], [1, 1]),
    ([0], [1]),
    ([3, 4], [4, 4]),
    ([41], [41]),
    ([20, 21], [1, 40]),
    ([40, 0], [41]),
]


def columns_of(rows):
    return [list(column) for column in zip(*rows)]


def all_free(rows, columns):
    return [[FREE] * columns for row in range(rows)]


def ways_of(parts):
    told = math.factorial(sum(parts))
    for part in parts:
        told //= math.factorial(part)
    return told


def all_columns(rows, many):
    """All counts of so many rows with that sum, from the first row on, the lesser first."""
    return [counts for counts in itertools.product(range(many + 1), repeat=rows) if sum(counts) == many]


def all_tables(rowsums, columnsums, bounds=None):
    """All tables, as rows, in their order: by the first column's counts, then by the second's."""
    bounds = bounds or all_free(len(rowsums), len(columnsums))
    told = []
    for columns in itertools.product(*[all_columns(len(rowsums), many) for many in columnsums]):
        rows = [list(row) for row in zip(*columns)]
        if [sum(row) for row in rows] == list(rowsums) and kept(rows, bounds):
            told.append(rows)
    return told


def kept(rows, bounds):
    return all(
        low <= count <= high
        for counts, pairs in zip(rows, bounds)
        for count, (low, high) in zip(counts, pairs)
    )


def dealings_of(rows):
    return math.prod(ways_of(column) for column in columns_of(rows))


def sums_of(rows):
    return [sum(row) for row in rows], [sum(column) for column in columns_of(rows)]


def drawn_sums(chance, rows, columns, many):
    """Row sums and column sums of so many things, laid one by one at random."""
    rowsums, columnsums = [0] * rows, [0] * columns
    for thing in range(many):
        rowsums[chance.randrange(rows)] += 1
        columnsums[chance.randrange(columns)] += 1
    return rowsums, columnsums


def drawn_bounds(chance, rows, columns, many, freely=2):
    """Bounds of which some are free (the more, the more freely), some bar, some ask for things."""
    def pair():
        low = chance.choice([0, 0, 0, 0, 0, 1, 1, 2])
        tight = [(low, low + chance.randrange(many + 1)), (0, chance.randrange(3)), (0, 0)]
        return chance.choice([FREE] * freely + tight)
    return [[pair() for column in range(columns)] for row in range(rows)]


def drawn_nets(seed, many):
    """Sums of few things, two in three with bounds; some of them are such that no table fits."""
    chance = random.Random(seed)
    for drawn in range(many):
        rows, columns = chance.choice([1, 2, 2, 3, 3]), chance.choice([1, 2, 2, 3, 3, 4])
        rowsums, columnsums = drawn_sums(chance, rows, columns, chance.choice([0, 1, 2, 3, 4, 5, 5, 6, 6, 7]))
        bounds = drawn_bounds(chance, rows, columns, 5, chance.choice([2, 8, 16]))
        yield rowsums, columnsums, bounds if drawn % 3 else None


def listed_nets(seed, many):
    """Such sums and bounds as some table fits, with all the tables that do, in their order."""
    for rowsums, columnsums, bounds in drawn_nets(seed, many):
        tables = all_tables(rowsums, columnsums, bounds)
        if tables:
            yield rowsums, columnsums, bounds, tables


def even_of(rowsums, columnsums):
    return math.lcm(*[across * down for across in rowsums for down in columnsums if across and down])


def value_of(kind, rowsums, columnsums, columns, place=(0, 0), first=0):
    """What the columns from the first one told bring to a measure, cell by cell as point 19 has it."""
    if kind == "rare":
        return math.prod(ways_of(column) for column in columns)
    if kind == "power":
        return math.prod(count ** count for column in columns for count in column)
    things, even, told = sum(rowsums), even_of(rowsums, columnsums), 0
    for down, column in enumerate(columns, first):
        for across, count in enumerate(column):
            product = rowsums[across] * columnsums[down]
            if kind == "square":
                told += count * count * even // product if product else 0
            elif kind == "off":
                told += abs(count * things - product)
            elif (across, down) == place:
                told += count
    return told


def table_value(kind, rows, place=(0, 0)):
    return value_of(kind, *sums_of(rows), columns_of(rows), place)


def stranger(kind, value, seen):
    """Whether a value is as strange as the seen one, or stranger."""
    return value <= seen if kind in ("rare", "least") else value >= seen


def spread_of(kind, tables, place=(0, 0)):
    """(value, dealings) of all values that the tables have, by rising value."""
    told = {}
    for rows in tables:
        value = table_value(kind, rows, place)
        told[value] = told.get(value, 0) + dealings_of(rows)
    return sorted(told.items())


def fraction(top, under):
    told = fractions.Fraction(top, under)
    return (told.numerator, told.denominator)


def left_by(rests, counts):
    return tuple(rest - count for rest, count in zip(rests, counts))


def endings(rests, columnsums, bounds, level):
    """All ways to fill the columns from a level on, each a list of columns, that make a table."""
    if level == len(columnsums):
        return [[]] if not any(rests) else []
    return [
        [counts] + rest
        for counts in all_columns(len(rests), columnsums[level])
        if all(
            low <= count <= min(high, rests[row])
            for row, (count, (low, high)) in enumerate(zip(counts, [pairs[level] for pairs in bounds]))
        )
        for rest in endings(left_by(rests, counts), columnsums, bounds, level + 1)
    ]


def nodes_with_tables(rowsums, columnsums, bounds):
    """Each node that has tables, (level, rests), with its endings, by rising level and rests."""
    told, here = {}, [tuple(rowsums)]
    for level in range(len(columnsums) + 1):
        found = {rests: endings(rests, columnsums, bounds, level) for rests in sorted(here)}
        told.update({(level, rests): ended for rests, ended in found.items() if ended})
        here = {left_by(rests, ended[0]) for rests, all_ended in found.items() for ended in all_ended if ended}
    return told
