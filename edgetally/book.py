"""Books: tables by names, each with bounds that it keeps, and steps that can be undone."""

from edgetally.deeds import (
    barred,
    come_to,
    done,
    dropped,
    entry_of,
    parted_out,
    put_in,
    turned_over,
    united,
)
from edgetally.errors import BadNumber, Nothing
from edgetally.looks import Look
from edgetally.means import mean
from edgetally.measures import Measure
from edgetally.net import Net
from edgetally.order import number_of
from edgetally.shares import share

TABLES = 8


class Book:
    """Tables by names, at most so many."""

    def __init__(self, *, most=TABLES):
        if not 1 <= most <= TABLES:
            raise BadNumber(f"a book keeps 1 to {TABLES} tables at most, not {most}")
        self.most = most
        # A deed makes a new dict and leaves the old one as it is, so steps, and twins,
        # can keep the dicts themselves.
        self.kept = {}
        self.past = []
        self.future = []

    def __eq__(self, other):
        return isinstance(other, Book) and self.kept == other.kept

    def __len__(self):
        return len(self.kept)

    def take_step(self, kept):
        self.past.append(self.kept)
        self.future = []
        self.kept = kept

    def put(self, name, rows, *, bounds=None):
        """Puts a table under a new name."""
        self.take_step(put_in(self.kept, self.most, name, rows, bounds))

    def come(self, name, row, column, *, many=1):
        """Lays so many things more into one cell."""
        self.take_step(come_to(self.kept, name, row, column, many))

    def unite(self, name, one, other, *, rows=True):
        """Joins two rows (columns) of a table."""
        self.take_step(united(self.kept, name, one, other, rows))

    def part_out(self, name, one, taken, *, rows=True):
        """Parts a row (column) of a table."""
        self.take_step(parted_out(self.kept, name, one, taken, rows))

    def turn(self, name):
        """Makes rows of a table's columns."""
        self.take_step(turned_over(self.kept, name))

    def drop(self, name):
        """Lets go of a table."""
        self.take_step(dropped(self.kept, name))

    def bar(self, name, row, column, *, low=0, high=0):
        """Gives one cell other bounds."""
        self.take_step(barred(self.kept, name, row, column, (low, high)))

    def run(self, deeds):
        """Does a list of deeds as one step, all or none, and tells how many."""
        kept = self.kept
        for deed in deeds:
            kept = done(kept, self.most, deed)
        if len(deeds) > 0:
            self.take_step(kept)
        return len(deeds)

    def undo(self):
        """Goes back behind the last step not gone back behind."""
        if len(self.past) == 0:
            raise Nothing("there is no step to undo")
        self.future.append(self.kept)
        self.kept = self.past.pop()

    def redo(self):
        """Does again what undo took back last."""
        if len(self.future) == 0:
            raise Nothing("there is no step to redo")
        self.past.append(self.kept)
        self.kept = self.future.pop()

    def settle(self):
        """Lets go of all that could be undone or redone."""
        self.past = []
        self.future = []

    def depth(self):
        """Tells how often undo could be asked, and how often redo."""
        return (len(self.past), len(self.future))

    def names(self):
        """Tells the names, rising."""
        return sorted(self.kept)

    def table(self, name):
        """Tells a table."""
        return entry_of(self.kept, name)[0]

    def bounds(self, name):
        """Tells a table's bounds."""
        return [list(pairs) for pairs in entry_of(self.kept, name)[1]]

    def net(self, name):
        """Tells the net of a table's sums and bounds."""
        table, bounds = entry_of(self.kept, name)
        return Net(table.rowsums(), table.columnsums(), bounds=bounds)

    def number(self, name):
        """Tells a table's number in its net."""
        return number_of(self.net(name), self.table(name).cells())

    def weighed(self, name, kind, place):
        """Tells a table's net, a measure with its sums, and the table's own value by it."""
        net = self.net(name)
        measure = Measure(kind, net.rowsums(), net.columnsums(), place=place)
        return (net, measure, measure.of(self.table(name).cells()))

    def share(self, name, kind, *, place=(0, 0), side="beyond"):
        """Tells the share of a table's own value by a kind of measure."""
        net, measure, seen = self.weighed(name, kind, place)
        return share(net, measure, seen, side=side)

    def look(self, name, kind, *, place=(0, 0)):
        """Tells a Look at the share of a table's own value."""
        net, measure, seen = self.weighed(name, kind, place)
        return Look(net, measure, seen)

    def mean(self, name, row, column):
        """Tells the mean of a cell's count in a table's net."""
        return mean(self.net(name), row, column)

    def twin(self):
        """Tells a book with the same tables and steps, which goes its own way from then on."""
        other = Book(most=self.most)
        other.kept = self.kept
        other.past = list(self.past)
        other.future = list(self.future)
        return other
