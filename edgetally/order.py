"""The order of a net's tables, and the numbers of its tables and of its dealings."""

from edgetally.bounds import rows_turned
from edgetally.counts import ways
from edgetally.errors import BadNumber, NoTable
from edgetally.net import rests_behind


def check_number(k, many):
    if not 0 <= k < many:
        raise BadNumber(f"there is no number {k} among {many}")


def steps_counted(net, level, rests):
    """Tells (filling, tables, dealings) of each step from a node, the filling's own ways counted in."""
    told = []
    for counts in net.steps(level, rests):
        tables, dealings = net.counts_at(level + 1, rests_behind(rests, counts))
        told.append((counts, tables, ways(counts) * dealings))
    return told


def falls_to(numbered, k):
    """Tells the filling that number k falls to, and its number among that filling's own."""
    at = 0
    while k >= numbered[at][1]:
        k -= numbered[at][1]
        at += 1
    return (numbered[at][0], k)


def kth_table(net, k):
    """Tells the table, as rows, with number k."""
    check_number(k, net.tables())
    rests = tuple(net.rowsums())
    columns = []
    for level in range(len(net.columnsums())):
        numbered = [(counts, tables) for counts, tables, dealings in steps_counted(net, level, rests)]
        filling, k = falls_to(numbered, k)
        columns.append(filling)
        rests = rests_behind(rests, filling)
    return rows_turned(columns)


def kth_dealing(net, k):
    """Tells the table, as rows, that number k of the dealings falls to."""
    check_number(k, net.dealings())
    rests = tuple(net.rowsums())
    columns = []
    for level in range(len(net.columnsums())):
        numbered = [(counts, dealings) for counts, tables, dealings in steps_counted(net, level, rests)]
        filling, k = falls_to(numbered, k)
        # Each dealing of the columns behind stands here as often as the filling has ways.
        k //= ways(filling)
        columns.append(filling)
        rests = rests_behind(rests, filling)
    return rows_turned(columns)


def columns_asked(net, rows):
    """Tells the columns of rows that have the net's shape."""
    many = len(net.columnsums())
    if len(rows) != len(net.rowsums()) or any([len(counts) != many for counts in rows]):
        raise NoTable("these rows are of another shape than the net's tables")
    return [tuple(counts) for counts in rows_turned(rows)]


def counted_ahead(net, level, rests, filling):
    """Tells a node's tables and dealings that stand ahead of those by a filling."""
    tables_ahead = 0
    dealings_ahead = 0
    for counts, tables, dealings in steps_counted(net, level, rests):
        if counts == filling:
            return (tables_ahead, dealings_ahead)
        tables_ahead += tables
        dealings_ahead += dealings
    raise NoTable(f"no table of the net goes on with {filling} in column {level}")


def number_of(net, rows):
    """Tells the number of a table, told as rows."""
    rests = tuple(net.rowsums())
    number = 0
    for level, filling in enumerate(columns_asked(net, rows)):
        number += counted_ahead(net, level, rests, filling)[0]
        rests = rests_behind(rests, filling)
    return number


def stretch(net, rows):
    """Tells a table's first number of dealings and the one behind its last."""
    rests = tuple(net.rowsums())
    first = 0
    many = 1
    for level, filling in enumerate(columns_asked(net, rows)):
        # What stands ahead at this node comes once for each way of the columns ahead.
        first += many * counted_ahead(net, level, rests, filling)[1]
        many *= ways(filling)
        rests = rests_behind(rests, filling)
    return (first, first + many)
