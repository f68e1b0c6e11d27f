"""Loops: how one table becomes another of the same sums, some cells at a time."""

from edgetally.bounds import check_rows, rows_turned
from edgetally.errors import BadSums


def sums_of(rows):
    """Tells the row sums and the column sums."""
    return ([sum(counts) for counts in rows], [sum(counts) for counts in rows_turned(rows)])


def gaps_between(one, other):
    """Tells, cell by cell, how many more the other table has."""
    return [[there - here for here, there in zip(counts, others)] for counts, others in zip(one, other)]


def first_giving(gaps):
    """Tells the first row with a cell that is to be given to, or None where no cell differs."""
    for row, cells in enumerate(gaps):
        if max(cells) > 0:
            return row
    return None


def giving_column(gaps, row):
    return [gap > 0 for gap in gaps[row]].index(True)


def taking_row(gaps, column):
    return [cells[column] < 0 for cells in gaps].index(True)


def loop_cells(gaps, row):
    """Tells the cells of a loop, given to and taken from by turns, that a walk from a row comes to."""
    come_to = []
    cells = []
    # The gaps of a row or a column add up to nought, so a cell of the other sign is always there;
    # what was walked ahead of the row that is come to again is no part of the loop.
    while row not in come_to:
        come_to.append(row)
        column = giving_column(gaps, row)
        cells.append((row, column))
        row = taking_row(gaps, column)
        cells.append((row, column))
    return cells[2 * come_to.index(row):]


def walked(rows, loop):
    """Tells the rows with many more in the loop's cells at even places, and fewer at odd ones."""
    many, cells = loop
    told = [list(counts) for counts in rows]
    for at, (row, column) in enumerate(cells):
        told[row][column] += many if at % 2 == 0 else -many
    return told


def loops(one, other):
    """Tells the loops that lead from one table to another of the same sums."""
    check_rows(one)
    check_rows(other)
    if sums_of(one) != sums_of(other):
        raise BadSums("the two tables have not the same sums")
    told = []
    gaps = gaps_between(one, other)
    row = first_giving(gaps)
    while row is not None:
        cells = loop_cells(gaps, row)
        # As many as the smallest gap has: one cell at least is done with each loop.
        many = min([abs(gaps[across][down]) for across, down in cells])
        told.append((many, cells))
        gaps = walked(gaps, (-many, cells))
        row = first_giving(gaps)
    return told
