import copy
import fractions
import itertools
import unittest

from edgetally.errors import BadCell, EdgeError
from edgetally.means import mean, pair_mean
from edgetally.net import Net
from listing import dealings_of, fraction, listed_nets

NOT_THERE = ((-1, 0), (0, -1), (-1, -1), (2, 0), (0, 3), (2, 3), (2, -1), (9, 9))


def mean_of(tables, cells):
    """The mean of the product of the counts in the cells, by going through all tables."""
    many = top = 0
    for rows in tables:
        product = dealings_of(rows)
        many += product
        for row, column in cells:
            product *= rows[row][column]
        top += product
    return fraction(top, many)


def cells_of(rowsums, columnsums):
    return list(itertools.product(range(len(rowsums)), range(len(columnsums))))


class Means(unittest.TestCase):
    def test_against_going_through_all_tables(self):
        broken = 0
        for rowsums, columnsums, bounds, tables in listed_nets(110, 150):
            net = Net(rowsums, columnsums, bounds=bounds)
            for row, column in cells_of(rowsums, columnsums):
                with self.subTest(paper=net.paper(), row=row, column=column):
                    told = mean(net, row, column)
                    self.assertEqual(told, mean_of(tables, [(row, column)]))
                    self.assertIs(type(told), tuple)
                    broken += told[1] > 1
        self.assertGreater(broken, 100)

    def test_without_bounds_by_the_sums_alone(self):
        rowsums, columnsums = [20, 20], [7, 7, 7, 7, 6, 6]
        net = Net(rowsums, columnsums)
        for row, column in cells_of(rowsums, columnsums):
            self.assertEqual(mean(net, row, column), fraction(rowsums[row] * columnsums[column], 40))

    def test_the_means_of_a_row_add_up_to_its_sum(self):
        for rowsums, columnsums, bounds, tables in listed_nets(111, 60):
            net = Net(rowsums, columnsums, bounds=bounds)
            means = {cell: fractions.Fraction(*mean(net, *cell)) for cell in cells_of(rowsums, columnsums)}
            for row, many in enumerate(rowsums):
                self.assertEqual(sum(means[row, column] for column in range(len(columnsums))), many)
            for column, many in enumerate(columnsums):
                self.assertEqual(sum(means[row, column] for row in range(len(rowsums))), many)

    def test_by_hand(self):
        net = Net([2, 1], [1, 2])
        self.assertEqual([mean(net, row, column) for row, column in cells_of([2, 1], [1, 2])],
                         [(2, 3), (4, 3), (1, 3), (2, 3)])
        self.assertEqual(mean(Net([0], [0]), 0, 0), (0, 1))

    def test_a_cell_that_is_not_there(self):
        net = Net([2, 2], [1, 1, 2])
        for row, column in NOT_THERE:
            with self.assertRaises(BadCell) as caught:
                mean(net, row, column)
            self.assertIsInstance(caught.exception, EdgeError)


class PairMeans(unittest.TestCase):
    def test_against_going_through_all_tables(self):
        for rowsums, columnsums, bounds, tables in listed_nets(112, 60):
            net = Net(rowsums, columnsums, bounds=bounds)
            for one, other in itertools.product(cells_of(rowsums, columnsums), repeat=2):
                with self.subTest(paper=net.paper(), one=one, other=other):
                    told = pair_mean(net, one, other)
                    self.assertEqual(told, mean_of(tables, [one, other]))
                    self.assertIs(type(told), tuple)

    def test_both_cells_the_same(self):
        # The counts 0, 1 and 2 in the first cell come in 6, 8 and 1 dealings.
        self.assertEqual(pair_mean(Net([2, 4], [2, 4]), (0, 0), (0, 0)), (4, 5))
        self.assertEqual(mean(Net([2, 4], [2, 4]), 0, 0), (2, 3))

    def test_by_hand(self):
        net = Net([2, 1], [1, 2])
        self.assertEqual(pair_mean(net, (0, 0), (0, 1)), (2, 3))
        self.assertEqual(pair_mean(net, (0, 0), (1, 0)), (0, 1))
        self.assertEqual(pair_mean(net, (0, 1), (0, 1)), (2, 1))
        self.assertEqual(pair_mean(Net([0], [0]), (0, 0), (0, 0)), (0, 1))

    def test_a_cell_that_is_not_there(self):
        net = Net([2, 2], [1, 1, 2])
        for cell in NOT_THERE:
            for other in ((0, 0), (1, 2), cell):
                for one, two in ((cell, other), (other, cell)):
                    with self.assertRaises(BadCell):
                        pair_mean(net, one, two)

    def test_the_net_stays(self):
        net = Net([2, 2], [1, 1, 2])
        paper = copy.deepcopy(net.paper())
        mean(net, 0, 0)
        pair_mean(net, (0, 0), (1, 2))
        self.assertEqual(net.paper(), paper)


if __name__ == "__main__":
    unittest.main()
