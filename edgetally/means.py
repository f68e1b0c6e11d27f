"""Means: what the count of a cell, or the product of two, is on the whole over all dealings."""

from edgetally.bounds import check_cell
from edgetally.counts import lowest, ways
from edgetally.net import rests_behind


def check_cell_of(net, cell):
    row, column = cell
    check_cell(row, column, len(net.rowsums()), len(net.columnsums()))


def count_in(cell, level, counts):
    """Tells what the filling of a column has in a cell, nought where the cell is of another one."""
    row, column = cell
    return counts[row] if column == level else 0


def put_to(found, here, there, many):
    """Tells dealings, and their sums of both counts and of the products, with a filling more."""
    dealings, ones, others, products = found
    return (
        many * dealings,
        many * (ones + here * dealings),
        many * (others + there * dealings),
        many * (products + here * others + there * ones + here * there * dealings),
    )


def sums_added(found, more):
    return tuple([one + other for one, other in zip(found, more)])


def sums_behind(net, one, other, level, sums):
    """Tells, for each node of the next level, the sums over all ways from the first node to it."""
    behind = {}
    for rests, found in sums.items():
        for counts in net.steps(level, rests):
            node = rests_behind(rests, counts)
            more = put_to(found, count_in(one, level, counts), count_in(other, level, counts), ways(counts))
            behind[node] = sums_added(behind.get(node, (0, 0, 0, 0)), more)
    return behind


def sums_over_tables(net, one, other):
    """Tells all dealings, and their sums of both cells' counts and of the products."""
    sums = {tuple(net.rowsums()): (1, 0, 0, 0)}
    for level in range(len(net.columnsums())):
        sums = sums_behind(net, one, other, level, sums)
    # Behind the last column nothing is left to lay, so all ways end in one node.
    return sums[tuple([0 for row in net.rowsums()])]


def mean(net, row, column):
    """Tells the mean of a cell's count over all dealings."""
    cell = (row, column)
    check_cell_of(net, cell)
    dealings, ones, others, products = sums_over_tables(net, cell, cell)
    return lowest(ones, dealings)


def pair_mean(net, one, other):
    """Tells the mean of the product of two cells' counts over all dealings."""
    check_cell_of(net, one)
    check_cell_of(net, other)
    dealings, ones, others, products = sums_over_tables(net, one, other)
    return lowest(products, dealings)
