"""Nets: all tables with told sums that keep told bounds, counted without being listed."""

from edgetally.bounds import check_sums, settled_bounds
from edgetally.counts import fillings, ways
from edgetally.errors import TooWide
from edgetally.fits import check_fit

WIDE = 500


def check_wide(rowsums):
    wide = 1
    for many in rowsums:
        wide *= many + 1
    if wide > WIDE:
        raise TooWide(wide)


def settled_for_net(rowsums, columnsums, bounds):
    """Tells a copy of the bounds; refuses what no net is made of, be there a table or not."""
    check_sums(rowsums, columnsums)
    settled = settled_bounds(bounds, len(rowsums), len(columnsums))
    check_wide(rowsums)
    return settled


def column_fillings(rests, columnsums, bounds, column):
    return fillings(rests, columnsums[column], [pairs[column] for pairs in bounds])


def rests_behind(rests, counts):
    """Tells what is still to be laid when a column is filled."""
    return tuple([rest - count for rest, count in zip(rests, counts)])


def nodes_by_level(rowsums, columnsums, bounds):
    """Tells, level by level, the rests that are come to, rising."""
    here = [tuple(rowsums)]
    told = [here]
    for column in range(len(columnsums)):
        behind = sorted({
            rests_behind(rests, counts)
            for rests in here
            for counts in column_fillings(rests, columnsums, bounds, column)
        })
        told.append(behind)
        here = behind
    return told


def node_counts(rests, filled, behind):
    """Tells a node's tables and dealings out of those of the next level."""
    tables = 0
    dealings = 0
    for counts in filled:
        tables_behind, dealings_behind = behind[rests_behind(rests, counts)]
        tables += tables_behind
        dealings += ways(counts) * dealings_behind
    return (tables, dealings)


def counted_nodes(rowsums, columnsums, bounds):
    """Tells the tables and dealings of each node, by rising level and rests."""
    levels = nodes_by_level(rowsums, columnsums, bounds)
    last = len(columnsums)
    here = {rests: (1, 1) for rests in levels[last]}
    told = [here]
    for level in reversed(range(last)):
        behind = here
        here = {
            rests: node_counts(rests, column_fillings(rests, columnsums, bounds, level), behind)
            for rests in levels[level]
        }
        told.append(here)
    return {
        (level, rests): counts
        for level, nodes in enumerate(told[::-1])
        for rests, counts in nodes.items()
    }


def paper_rows(counted):
    return [(level, rests, tables, dealings) for (level, rests), (tables, dealings) in counted.items()]


class Net:
    """All tables with these sums that keep the bounds."""

    def __init__(self, rowsums, columnsums, *, bounds=None):
        settled = settled_for_net(rowsums, columnsums, bounds)
        check_fit(rowsums, columnsums, settled)
        self.row_list = list(rowsums)
        self.column_list = list(columnsums)
        self.pairs = settled
        self.counted = counted_nodes(rowsums, columnsums, settled)

    def __eq__(self, other):
        return (
            isinstance(other, Net)
            and self.row_list == other.row_list
            and self.column_list == other.column_list
            and self.pairs == other.pairs
        )

    def __len__(self):
        return len(self.counted)

    def rowsums(self):
        """Tells the row sums."""
        return list(self.row_list)

    def columnsums(self):
        """Tells the column sums."""
        return list(self.column_list)

    def bounds(self):
        """Tells the bounds."""
        return [list(pairs) for pairs in self.pairs]

    def counts_at(self, level, rests):
        """Tells a node's tables and dealings, noughts of what is no node."""
        return self.counted.get((level, rests), (0, 0))

    def tables(self):
        """Tells how many tables there are."""
        return self.counts_at(0, tuple(self.row_list))[0]

    def dealings(self):
        """Tells in how many ways the things can be dealt."""
        return self.counts_at(0, tuple(self.row_list))[1]

    def steps(self, level, rests):
        """Tells the fillings that lead from a node to nodes with tables."""
        # What is no node, as the last level's own, has no column to fill.
        if (level, rests) not in self.counted or level == len(self.column_list):
            return []
        return [
            counts
            for counts in column_fillings(rests, self.column_list, self.pairs, level)
            if self.counts_at(level + 1, rests_behind(rests, counts))[0] > 0
        ]

    def paper(self):
        """Tells (level, rests, tables, dealings) of each node, by rising level and rests."""
        return paper_rows(self.counted)


def net_holds(rowsums, columnsums, paper, *, bounds=None):
    """Tells whether a list is just the paper of these sums and bounds, be there a table or not."""
    settled = settled_for_net(rowsums, columnsums, bounds)
    return paper == paper_rows(counted_nodes(rowsums, columnsums, settled))
