"""Bounds: for each cell of a table the least and the greatest count that may stand there."""

from edgetally.errors import BadBounds, BadCell, BadSums, BadTable

MOST = 40
MOST_ROWS = 4
MOST_COLUMNS = 6
FREE = (0, MOST)


def free(rows, columns, *, pair=FREE):
    """Tells bounds of so many rows and columns, each cell with that pair."""
    return [[pair for column in range(columns)] for row in range(rows)]


def check_rows(rows):
    """Refuses rows that are no table's."""
    if not 1 <= len(rows) <= MOST_ROWS:
        raise BadTable(f"a table has 1 to {MOST_ROWS} rows, not {len(rows)}")
    columns = len(rows[0])
    if not 1 <= columns <= MOST_COLUMNS:
        raise BadTable(f"a table has 1 to {MOST_COLUMNS} columns, not {columns}")
    if any([len(counts) != columns for counts in rows]):
        raise BadTable("the rows are of unlike lengths")
    if any([count < 0 for counts in rows for count in counts]):
        raise BadTable("a count is below nought")
    if sum([sum(counts) for counts in rows]) > MOST:
        raise BadTable(f"a table has at most {MOST} things")


def check_sums(rowsums, columnsums):
    """Refuses sums that no table can have."""
    if not 1 <= len(rowsums) <= MOST_ROWS:
        raise BadSums(f"there are 1 to {MOST_ROWS} row sums, not {len(rowsums)}")
    if not 1 <= len(columnsums) <= MOST_COLUMNS:
        raise BadSums(f"there are 1 to {MOST_COLUMNS} column sums, not {len(columnsums)}")
    if any([many < 0 for many in rowsums]) or any([many < 0 for many in columnsums]):
        raise BadSums("a sum is below nought")
    if sum(rowsums) != sum(columnsums):
        raise BadSums(f"the rows have {sum(rowsums)} things, the columns {sum(columnsums)}")
    if sum(rowsums) > MOST:
        raise BadSums(f"a table has at most {MOST} things")


def check_there(place, many):
    """Refuses a row or a column that is not among so many."""
    if not 0 <= place < many:
        raise BadCell(f"there is no number {place} among {many}")


def check_cell(row, column, rows, columns):
    """Refuses a cell that is not among so many rows and columns."""
    check_there(row, rows)
    check_there(column, columns)


def check_pair(pair):
    low, high = pair
    if not 0 <= low <= high <= MOST:
        raise BadBounds(f"a cell has no bounds from {low} to {high}")


def settled_bounds(bounds, rows, columns):
    """Tells a copy of the bounds, all free where there are None; refuses those of another shape."""
    if bounds is None:
        return free(rows, columns)
    if len(bounds) != rows or any([len(pairs) != columns for pairs in bounds]):
        raise BadBounds(f"these are no bounds of {rows} rows and {columns} columns")
    for pairs in bounds:
        for pair in pairs:
            check_pair(pair)
    return [list(pairs) for pairs in bounds]


def keeps(rows, bounds):
    """Tells whether each count of a table is from its low to its high."""
    check_rows(rows)
    settled = settled_bounds(bounds, len(rows), len(rows[0]))
    return all([
        low <= count <= high
        for counts, pairs in zip(rows, settled)
        for count, (low, high) in zip(counts, pairs)
    ])


def rows_turned(rows):
    """Tells what stands in the rows, counts or pairs, with rows for columns."""
    return [[cells[column] for cells in rows] for column in range(len(rows[0]))]


def bounds_turned(bounds):
    """Tells the bounds with rows for columns."""
    return rows_turned(bounds)


def pair_joined(one, other):
    return (one[0] + other[0], min(one[1] + other[1], MOST))


def rows_joined(bounds, one, other):
    told = [list(pairs) for pairs in bounds]
    told[one] = [pair_joined(here, there) for here, there in zip(bounds[one], bounds[other])]
    del told[other]
    return told


def bounds_joined(bounds, one, other, *, rows=True):
    """Tells the bounds of a table whose two rows (columns) became one, where the first stood."""
    if rows:
        return rows_joined(bounds, one, other)
    return rows_turned(rows_joined(rows_turned(bounds), one, other))


def row_parted(bounds, one):
    told = [list(pairs) for pairs in bounds]
    loosened = [(0, high) for low, high in bounds[one]]
    # The two rows are lists of their own: who changes one must not change the other.
    told[one:one + 1] = [loosened, list(loosened)]
    return told


def bounds_parted(bounds, one, *, rows=True):
    """Tells the bounds of a table whose row (column) became two."""
    if rows:
        return row_parted(bounds, one)
    return rows_turned(row_parted(rows_turned(bounds), one))
