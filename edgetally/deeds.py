"""Deeds: what may be done with the tables that a book keeps. Each tells new ones, or refuses.

What is kept is a dict: by its name each table, with the bounds that it keeps. No deed changes it.
"""

from edgetally.bounds import (
    MOST,
    bounds_joined,
    bounds_parted,
    bounds_turned,
    check_cell,
    check_pair,
    settled_bounds,
)
from edgetally.errors import BadName, BadRule, Full, Outside, Taken, TooMany, Unknown
from edgetally.table import Table
from edgetally.words import FIGURES

MOST_SIGNS = 12
LETTERS = "abcdefghijklmnopqrstuvwxyz"


def check_name(name):
    if not 1 <= len(name) <= MOST_SIGNS:
        raise BadName(f"a name has 1 to {MOST_SIGNS} signs, not {len(name)}")
    if any([sign not in LETTERS + FIGURES for sign in name]):
        raise BadName("a name has small letters and figures alone")
    if name[0] not in LETTERS:
        raise BadName("a name begins with a letter")


def check_count(count, pair, row, column):
    low, high = pair
    if not low <= count <= high:
        raise Outside(row, column)


def entry_of(kept, name):
    """Tells the table of a name, and its bounds."""
    if name not in kept:
        raise Unknown(name)
    return kept[name]


def with_entry(kept, name, table, bounds):
    told = dict(kept)
    told[name] = (table, bounds)
    return told


def put_in(kept, most, name, rows, bounds):
    """Tells the tables with one more, where no more than most may be kept."""
    check_name(name)
    if name in kept:
        raise Taken(name)
    if len(kept) >= most:
        raise Full(f"the book keeps {most} tables at most")
    table = Table(rows)
    settled = settled_bounds(bounds, len(rows), len(rows[0]))
    for row, counts in enumerate(rows):
        for column, count in enumerate(counts):
            check_count(count, settled[row][column], row, column)
    return with_entry(kept, name, table, settled)


def come_to(kept, name, row, column, many):
    """Tells the tables with so many things more in one cell."""
    table, bounds = entry_of(kept, name)
    check_cell(row, column, len(bounds), len(bounds[0]))
    check_count(table.cells()[row][column] + many, bounds[row][column], row, column)
    if table.total() + many > MOST:
        raise TooMany(f"a table has at most {MOST} things")
    return with_entry(kept, name, table.more(row, column, many=many), bounds)


def united(kept, name, one, other, rows):
    """Tells the tables with two rows (columns) of one table joined."""
    table, bounds = entry_of(kept, name)
    joined = table.joined(one, other, rows=rows)
    return with_entry(kept, name, joined, bounds_joined(bounds, one, other, rows=rows))


def parted_out(kept, name, one, taken, rows):
    """Tells the tables with a row (column) of one table parted."""
    table, bounds = entry_of(kept, name)
    parted = table.parted(one, taken, rows=rows)
    return with_entry(kept, name, parted, bounds_parted(bounds, one, rows=rows))


def turned_over(kept, name):
    """Tells the tables with rows for columns in one of them."""
    table, bounds = entry_of(kept, name)
    return with_entry(kept, name, table.turned(), bounds_turned(bounds))


def dropped(kept, name):
    """Tells the tables without one of them."""
    entry_of(kept, name)
    told = dict(kept)
    del told[name]
    return told


def barred(kept, name, row, column, pair):
    """Tells the tables with another pair for one cell's bounds."""
    table, bounds = entry_of(kept, name)
    check_cell(row, column, len(bounds), len(bounds[0]))
    check_pair(pair)
    check_count(table.cells()[row][column], pair, row, column)
    told = [list(pairs) for pairs in bounds]
    told[row][column] = pair
    return with_entry(kept, name, table, told)


def done(kept, most, deed):
    """Tells the tables behind a deed that is told as a tuple of a word and what it is handed."""
    word = deed[0]
    if word == "put":
        return put_in(kept, most, deed[1], deed[2], None)
    if word == "come":
        return come_to(kept, deed[1], deed[2], deed[3], deed[4])
    if word == "unite":
        return united(kept, deed[1], deed[2], deed[3], deed[4])
    if word == "part_out":
        return parted_out(kept, deed[1], deed[2], deed[3], deed[4])
    if word == "turn":
        return turned_over(kept, deed[1])
    if word == "drop":
        return dropped(kept, deed[1])
    if word == "bar":
        return barred(kept, deed[1], deed[2], deed[3], (deed[4], deed[5]))
    raise BadRule(f"there is no deed {word}")
