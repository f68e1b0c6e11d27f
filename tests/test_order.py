import copy
import random
import time
import unittest

from edgetally.bounds import FREE
from edgetally.errors import BadNumber, EdgeError, NoTable
from edgetally.net import Net
from edgetally.order import kth_dealing, kth_table, number_of, stretch
from listing import all_tables, dealings_of, listed_nets


class Listed(unittest.TestCase):
    def nets(self):
        for rowsums, columnsums, bounds, tables in listed_nets(40, 600):
            yield Net(rowsums, columnsums, bounds=bounds), tables

    def test_tables_and_their_numbers(self):
        several = 0
        for net, tables in self.nets():
            self.assertEqual([kth_table(net, k) for k in range(len(tables))], tables)
            self.assertEqual([number_of(net, rows) for rows in tables], list(range(len(tables))))
            several += len(tables) > 3
        self.assertGreater(several, 20)

    def test_dealings_and_their_stretches(self):
        for net, tables in self.nets():
            first = 0
            for rows in tables:
                behind = first + dealings_of(rows)
                self.assertEqual(stretch(net, rows), (first, behind))
                for k in {first, (first + behind) // 2, behind - 1}:
                    self.assertEqual(kth_dealing(net, k), rows)
                first = behind
            self.assertEqual(first, net.dealings())

    def test_each_dealing_of_a_net(self):
        for rowsums, columnsums in (([2, 3], [1, 2, 2]), ([2, 2, 1], [2, 1, 2]), ([1, 1, 1], [3]), ([4], [2, 2])):
            net = Net(rowsums, columnsums)
            told = [kth_dealing(net, k) for k in range(net.dealings())]
            told_by_tables = [rows for rows in all_tables(rowsums, columnsums) for way in range(dealings_of(rows))]
            self.assertEqual(told, told_by_tables)

    def test_the_order_by_hand(self):
        net = Net([2, 1], [1, 1, 1])
        self.assertEqual([kth_table(net, k) for k in range(3)], [
            [[0, 1, 1], [1, 0, 0]], [[1, 0, 1], [0, 1, 0]], [[1, 1, 0], [0, 0, 1]],
        ])
        net = Net([2, 2], [3, 1])
        self.assertEqual([kth_table(net, k) for k in range(2)], [[[1, 1], [2, 0]], [[2, 0], [1, 1]]])
        self.assertEqual([stretch(net, kth_table(net, k)) for k in range(2)], [(0, 3), (3, 6)])

    def test_a_number_that_is_none(self):
        for net, tables in self.nets():
            for k in (-1, -2, len(tables), len(tables) + 1, -len(tables)):
                with self.assertRaises(BadNumber):
                    kth_table(net, k)
            for k in (-1, -2, net.dealings(), net.dealings() + 1, -net.dealings()):
                with self.assertRaises(BadNumber) as caught:
                    kth_dealing(net, k)
                self.assertIsInstance(caught.exception, EdgeError)

    def test_kinds(self):
        net = Net([2, 1], [1, 2])
        for rows in (kth_table(net, 0), kth_dealing(net, 0)):
            self.assertIs(type(rows), list)
            self.assertTrue(all(type(row) is list for row in rows))
        self.assertIs(type(number_of(net, [[0, 2], [1, 0]])), int)
        self.assertIs(type(stretch(net, [[0, 2], [1, 0]])), tuple)


class NoTables(unittest.TestCase):
    def none(self, net, rows):
        with self.subTest(rows=rows):
            stayed = copy.deepcopy(rows)
            with self.assertRaises(NoTable) as caught:
                number_of(net, rows)
            self.assertEqual(caught.exception.word, "none")
            with self.assertRaises(NoTable):
                stretch(net, rows)
            self.assertEqual(rows, stayed)

    def test_another_shape(self):
        net = Net([2, 1], [1, 1, 1])
        for rows in (
            [], [[]], [[], []], [[1, 1, 0]], [[1, 1, 0], [0, 0, 1], [0, 0, 0]], [[1, 1], [0, 0]], [[1, 1, 0, 0], [0, 0, 1, 0]],
            [[1, 1, 0], [0, 0]], [[1, 1], [0, 0, 1]], [[1, 1, 0], []], [[], [1, 1, 0]], [[1, 1, 0], [0, 0, 1], []],
            [[0, 1], [1, 0], [1, 0]], [[1, 1, 0], [0, 0, 1, 0]], [[0]] * 9,
        ):
            self.none(net, rows)

    def test_one_column_or_one_row(self):
        self.assertEqual(number_of(Net([2, 1], [3]), [[2], [1]]), 0)
        for rows in ([[2, 1]], [[2]], [[1], [2]], [[2], []], [[], []]):
            self.none(Net([2, 1], [3]), rows)
        for rows in ([[2], [1]], [[1, 2]], [[2, 1, 0]], []):
            self.none(Net([3], [2, 1]), rows)

    def test_counts_below_nought(self):
        net = Net([2, 1], [1, 2])
        for rows in ([[-1, 3], [2, -1]], [[2, 0], [-1, 2]], [[3, -1], [-2, 3]], [[-1, -1], [-1, -1]]):
            self.none(net, rows)

    def test_things_moved_or_one_more(self):
        chance = random.Random(41)
        for rowsums, columnsums, bounds, tables in listed_nets(42, 200):
            net = Net(rowsums, columnsums, bounds=bounds)
            rows = chance.choice(tables)
            for row in range(len(rows)):
                for column in range(len(rows[0])):
                    for many in (1, -1):
                        changed = copy.deepcopy(rows)
                        changed[row][column] += many
                        self.none(net, changed)
                        for other in range(len(rows)):
                            if other != row:
                                moved = copy.deepcopy(changed)
                                moved[other][column] -= many
                                self.none(net, moved)

    def test_beyond_a_bound(self):
        told = 0
        for rowsums, columnsums, bounds, tables in listed_nets(43, 500):
            net = Net(rowsums, columnsums, bounds=bounds)
            for rows in all_tables(rowsums, columnsums):
                if rows not in tables:
                    told += 1
                    self.none(net, rows)
        self.assertGreater(told, 50)
        net = Net([2, 1], [1, 2], bounds=[[(0, 0), FREE], [FREE, FREE]])
        self.assertEqual(number_of(net, [[0, 2], [1, 0]]), 0)
        self.none(net, [[1, 1], [0, 1]])
        net = Net([2, 1], [1, 2], bounds=[[(1, 40), FREE], [FREE, FREE]])
        self.assertEqual(number_of(net, [[1, 1], [0, 1]]), 0)
        self.none(net, [[0, 2], [1, 0]])


class Kept(unittest.TestCase):
    def test_rows_handed_in_and_told_changed(self):
        net, rows = Net([3, 2], [2, 1, 2]), [[1, 1, 1], [1, 0, 1]]
        k, numbers = number_of(net, rows), stretch(net, rows)
        self.assertEqual(rows, [[1, 1, 1], [1, 0, 1]])
        for told in (kth_table(net, k), kth_dealing(net, numbers[0])):
            self.assertEqual(told, rows)
            told[0][0] = 9
            told.append([])
            self.assertEqual(kth_table(net, k), rows)
            self.assertEqual(kth_dealing(net, numbers[0]), rows)
        self.assertEqual((number_of(net, rows), stretch(net, rows)), (k, numbers))

    def test_40_things_in_two_rows_at_once(self):
        began = time.perf_counter()
        net = Net([20, 20], [7, 7, 7, 7, 6, 6])
        chance = random.Random(44)
        for drawn in range(50):
            k = chance.randrange(net.tables())
            self.assertEqual(number_of(net, kth_table(net, k)), k)
            k = chance.randrange(net.dealings())
            rows = kth_dealing(net, k)
            first, behind = stretch(net, rows)
            self.assertTrue(first <= k < behind)
            self.assertEqual(behind - first, dealings_of(rows))
        last = kth_table(net, net.tables() - 1)
        self.assertEqual(last, [[7, 7, 6, 0, 0, 0], [0, 0, 1, 7, 6, 6]])
        self.assertEqual(stretch(net, last)[1], net.dealings())
        self.assertEqual(kth_dealing(net, net.dealings() - 1), last)
        self.assertEqual(kth_table(net, 0), [[0, 0, 1, 7, 6, 6], [7, 7, 6, 0, 0, 0]])
        self.assertLess(time.perf_counter() - began, 20)


if __name__ == "__main__":
    unittest.main()
