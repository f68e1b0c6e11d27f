"""Tables: rows and columns of counts, and the deeds that make one table of another."""

from edgetally.bounds import check_cell, check_rows, check_there, rows_turned
from edgetally.errors import BadCell, BadTable


def two_joined(rows, one, other):
    check_there(one, len(rows))
    check_there(other, len(rows))
    if one == other:
        raise BadCell(f"number {one} is not joined with itself")
    told = list(rows)
    told[one] = [here + there for here, there in zip(rows[one], rows[other])]
    del told[other]
    return told


def one_parted(rows, one, taken):
    check_there(one, len(rows))
    if len(taken) != len(rows[one]):
        raise BadTable(f"{len(taken)} counts are taken out of {len(rows[one])}")
    # Counts taken that are below nought, or above what stands there, leave a count below nought
    # in one of the two rows, and that is refused when the table is made.
    left = [count - gone for count, gone in zip(rows[one], taken)]
    return rows[:one] + [left, taken] + rows[one + 1:]


class Table:
    """A table of counts, which never changes."""

    def __init__(self, rows):
        check_rows(rows)
        self.counts = [list(counts) for counts in rows]

    def __eq__(self, other):
        return isinstance(other, Table) and self.counts == other.counts

    def __len__(self):
        return len(self.counts)

    def __str__(self):
        return " / ".join([" ".join([str(count) for count in counts]) for counts in self.counts])

    def __repr__(self):
        return f"Table({self.counts})"

    def cells(self):
        """Tells the rows of counts."""
        return [list(counts) for counts in self.counts]

    def rowsums(self):
        """Tells the sum of each row."""
        return [sum(counts) for counts in self.counts]

    def columnsums(self):
        """Tells the sum of each column."""
        return [sum(counts) for counts in rows_turned(self.counts)]

    def total(self):
        """Tells how many things there are in all."""
        return sum(self.rowsums())

    def turned(self):
        """Tells the table with rows for columns."""
        return Table(rows_turned(self.counts))

    def joined(self, one, other, *, rows=True):
        """Tells the table whose two rows (columns) became one, where the first stood."""
        if rows:
            return Table(two_joined(self.counts, one, other))
        return Table(rows_turned(two_joined(rows_turned(self.counts), one, other)))

    def parted(self, one, taken, *, rows=True):
        """Tells the table with the taken counts as a row (column) of their own behind the one."""
        if rows:
            return Table(one_parted(self.counts, one, taken))
        return Table(rows_turned(one_parted(rows_turned(self.counts), one, taken)))

    def more(self, row, column, *, many=1):
        """Tells the table with so many things more in one cell."""
        check_cell(row, column, len(self.counts), len(self.counts[0]))
        told = self.cells()
        told[row][column] += many
        return Table(told)
