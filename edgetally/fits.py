"""Whether any table has told sums and keeps told bounds, and which rows and columns bar all."""

from edgetally.bounds import check_sums, check_there, settled_bounds
from edgetally.errors import Barred


def need_of(rowsums, over):
    return sum([rowsums[row] for row in over])


def room_inside(columnsums, bounds, over, column):
    """Tells what a column leaves to the rows, when all others have no more than their lows there."""
    lows = [pairs[column][0] for row, pairs in enumerate(bounds) if row not in over]
    return columnsums[column] - sum(lows)


def room_beside(bounds, over, column):
    """Tells what the rows can have in a column by their highs."""
    return sum([bounds[row][column][1] for row in over])


def room_of(columnsums, bounds, over, into):
    return sum([
        room_inside(columnsums, bounds, over, column) if column in into else room_beside(bounds, over, column)
        for column in range(len(columnsums))
    ])


def narrowest(columnsums, bounds, over):
    """Tells the columns by which there is the least room for the rows."""
    return [
        column
        for column in range(len(columnsums))
        if room_inside(columnsums, bounds, over, column) < room_beside(bounds, over, column)
    ]


def choices(many):
    """Tells all rising lists of numbers below many."""
    told = [[]]
    for number in range(many):
        told = told + [chosen + [number] for chosen in told]
    return told


def check_fit(rowsums, columnsums, bounds):
    """Refuses sums and bounds that no table has."""
    # Each column adds to the room by itself, so for told rows the narrowest columns are found
    # one by one; where rows by their narrowest columns never bar, some table fits.
    for over in choices(len(rowsums)):
        into = narrowest(columnsums, bounds, over)
        if need_of(rowsums, over) > room_of(columnsums, bounds, over, into):
            raise Barred(over, into)


def least_count(rowsums, columnsums, bounds, row, column):
    """Tells the least count that a table which fits has in a cell."""
    low, high = bounds[row][column]
    spare = high - low
    for over in choices(len(rowsums)):
        if row in over:
            # Only where the cell's column is left out does its high make room.
            into = [other for other in narrowest(columnsums, bounds, over) if other != column]
            spare = min(spare, room_of(columnsums, bounds, over, into) - need_of(rowsums, over))
    return high - spare


def fitting(rowsums, columnsums, *, bounds=None):
    """Tells a table, as rows, with these sums that keeps the bounds."""
    check_sums(rowsums, columnsums)
    lowered = settled_bounds(bounds, len(rowsums), len(columnsums))
    check_fit(rowsums, columnsums, lowered)
    # Cell by cell the high goes down as far as some table still fits: behind the last cell
    # one table alone is left, with all counts at their highs.
    for row in range(len(rowsums)):
        for column in range(len(columnsums)):
            low = lowered[row][column][0]
            lowered[row][column] = (low, least_count(rowsums, columnsums, lowered, row, column))
    return [[high for low, high in pairs] for pairs in lowered]


def room(rowsums, columnsums, over, into, *, bounds=None):
    """Tells the things of the rows, and the room that there is for them by the columns."""
    check_sums(rowsums, columnsums)
    settled = settled_bounds(bounds, len(rowsums), len(columnsums))
    for row in over:
        check_there(row, len(rowsums))
    for column in into:
        check_there(column, len(columnsums))
    return (need_of(rowsums, over), room_of(columnsums, settled, over, into))
