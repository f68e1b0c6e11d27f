import copy
import unittest

from edgetally.bounds import (
    FREE,
    MOST,
    bounds_joined,
    bounds_parted,
    bounds_turned,
    free,
    keeps,
    settled_bounds,
)
from edgetally.errors import BadBounds, BadTable

# Twelve pairs, no two the same, so that a pair at a wrong place is seen.
THREE_BY_FOUR = [
    [(0, 1), (0, 2), (0, 3), (0, 4)],
    [(1, 1), (1, 2), (1, 3), (1, 4)],
    [(2, 2), (2, 3), (2, 4), (2, 40)],
]


class Free(unittest.TestCase):
    def test_values(self):
        self.assertEqual(MOST, 40)
        self.assertEqual(FREE, (0, 40))
        self.assertIsInstance(FREE, tuple)

    def test_without_the_pair(self):
        self.assertEqual(free(1, 1), [[(0, 40)]])
        self.assertEqual(free(2, 3), [[(0, 40)] * 3, [(0, 40)] * 3])
        self.assertEqual(free(4, 6), [[(0, 40)] * 6] * 4)

    def test_with_the_pair(self):
        self.assertEqual(free(3, 2, pair=(0, 0)), [[(0, 0)] * 2] * 3)
        self.assertEqual(free(1, 2, pair=(3, 7)), [[(3, 7), (3, 7)]])

    def test_a_told_list_changed_and_asked_again(self):
        told = free(2, 2)
        told[0][0] = (1, 1)
        self.assertEqual(told, [[(1, 1), FREE], [FREE, FREE]])
        told.append([])
        self.assertEqual(free(2, 2), [[FREE, FREE], [FREE, FREE]])


class Keeps(unittest.TestCase):
    def test_at_the_edges_of_a_pair(self):
        for low, high in [(0, 0), (0, 3), (2, 2), (2, 5), (0, 40), (39, 40), (40, 40)]:
            for count in range(41):
                with self.subTest(low=low, high=high, count=count):
                    self.assertIs(keeps([[count]], [[(low, high)]]), low <= count <= high)

    def test_each_cell_counts(self):
        rows = [[1, 2, 3], [4, 5, 6]]
        fitting = [[(count, count) for count in counts] for counts in rows]
        self.assertIs(keeps(rows, fitting), True)
        for row in range(2):
            for column in range(3):
                for step in (-1, 1):
                    broken = copy.deepcopy(fitting)
                    count = rows[row][column] + step
                    broken[row][column] = (count, count)
                    with self.subTest(row=row, column=column, step=step):
                        self.assertIs(keeps(rows, broken), False)

    def test_free_bounds_are_kept_by_all(self):
        for rows in ([[0]], [[40]], [[10] * 1] * 4, [[1] * 6] * 4, [[0, 0, 0, 0, 0, 40]]):
            self.assertIs(keeps(rows, free(len(rows), len(rows[0]))), True)
            self.assertIs(keeps(rows, None), True)

    def test_barred_cells_hold_nought_alone(self):
        self.assertIs(keeps([[0, 5]], [[(0, 0), FREE]]), True)
        self.assertIs(keeps([[1, 4]], [[(0, 0), FREE]]), False)

    def test_what_is_handed_in_stays(self):
        rows, bounds = [[1, 2], [3, 4]], [[FREE, (0, 2)], [(3, 3), (0, 0)]]
        rows_kept, bounds_kept = copy.deepcopy(rows), copy.deepcopy(bounds)
        self.assertIs(keeps(rows, bounds), False)
        self.assertEqual((rows, bounds), (rows_kept, bounds_kept))


NO_TABLES = {
    "no row": [],
    "five rows": [[0]] * 5,
    "no column": [[]],
    "two rows without a column": [[], []],
    "seven columns": [[0] * 7],
    "a longer second row": [[1, 2], [3, 4, 5]],
    "a shorter second row": [[1, 2], [3]],
    "an empty last row": [[1], [2], []],
    "a first count below nought": [[-1, 2], [3, 4]],
    "a last count below nought": [[1, 2], [3, -1]],
    "a count below nought, many things else": [[41, -1]],
    "forty-one things in a cell": [[41]],
    "forty-one things in a row": [[20, 21]],
    "forty-one things in all": [[10, 10], [10, 11]],
}
BAD_PAIRS = [(-1, 3), (-1, -1), (3, 2), (1, 0), (0, 41), (41, 41), (40, 41), (41, 40)]
OTHER_SHAPES = {
    "no row": [],
    "one row": [[FREE, FREE, FREE]],
    "three rows": [[FREE] * 3] * 3,
    "rows without a pair": [[], []],
    "two columns": [[FREE] * 2] * 2,
    "four columns": [[FREE] * 4] * 2,
    "a shorter first row": [[FREE] * 2, [FREE] * 3],
    "a longer last row": [[FREE] * 3, [FREE] * 4],
    "turned": [[FREE] * 2] * 3,
}


class KeepsRefuses(unittest.TestCase):
    rows = [[1, 2, 3], [0, 4, 5]]

    def test_rows_that_are_no_table(self):
        for name, rows in NO_TABLES.items():
            columns = len(rows[0]) if rows else 1
            with self.subTest(name):
                with self.assertRaises(BadTable):
                    keeps(rows, free(len(rows), columns))
                with self.assertRaises(BadTable):
                    keeps(rows, None)

    def test_tables_at_the_edges_are_none_of_these(self):
        for rows in ([[0]], [[0]] * 4, [[0] * 6] * 4, [[40]], [[10, 10], [10, 10]]):
            self.assertIs(keeps(rows, free(len(rows), len(rows[0]))), True)

    def test_bounds_of_another_shape(self):
        for name, bounds in OTHER_SHAPES.items():
            with self.subTest(name):
                with self.assertRaises(BadBounds):
                    keeps(self.rows, bounds)

    def test_a_pair_that_is_none_at_each_place(self):
        for pair in BAD_PAIRS:
            for row in range(2):
                for column in range(3):
                    bounds = free(2, 3)
                    bounds[row][column] = pair
                    with self.subTest(pair=pair, row=row, column=column):
                        with self.assertRaises(BadBounds):
                            keeps(self.rows, bounds)

    def test_a_pair_that_is_none_behind_a_broken_one(self):
        bounds = free(2, 3)
        bounds[0][0] = (0, 0)
        bounds[1][2] = (0, 41)
        with self.assertRaises(BadBounds):
            keeps(self.rows, bounds)

    def test_bad_table_ahead_of_bad_bounds(self):
        for name, rows in NO_TABLES.items():
            for bounds in ([], [[]], [[FREE] * 5] * 3, [[(3, 2)]], [[(0, 41)] * 2] * 2):
                with self.subTest(name, bounds=bounds):
                    with self.assertRaises(BadTable):
                        keeps(rows, bounds)


class Stays(unittest.TestCase):
    def check(self, deed, bounds):
        """What is handed in stays, and neither side's lists are kept by the other."""
        kept = copy.deepcopy(bounds)
        told = deed(bounds)
        self.assertEqual(bounds, kept)
        first = copy.deepcopy(told)
        for at, pairs in enumerate(told):
            pairs[0] = (9, 9)
            for other in told[at + 1:]:
                self.assertNotEqual(other[0], (9, 9))
        told.clear()
        self.assertEqual(bounds, kept)
        self.assertEqual(deed(bounds), first)
        self.assertTrue(all(isinstance(pair, tuple) for pairs in first for pair in pairs))

    def test_turned_joined_and_parted(self):
        self.check(bounds_turned, THREE_BY_FOUR)
        for rows in (True, False):
            self.check(lambda bounds: bounds_joined(bounds, 0, 2, rows=rows), THREE_BY_FOUR)
            self.check(lambda bounds: bounds_joined(bounds, 2, 1, rows=rows), THREE_BY_FOUR)
            self.check(lambda bounds: bounds_parted(bounds, 1, rows=rows), THREE_BY_FOUR)

    def test_handed_in_rows_changed_afterwards(self):
        bounds = copy.deepcopy(THREE_BY_FOUR)
        told = [
            bounds_turned(bounds),
            bounds_joined(bounds, 0, 1),
            bounds_parted(bounds, 0),
        ]
        kept = copy.deepcopy(told)
        for pairs in bounds:
            pairs[:] = [(7, 7)] * 4
        self.assertEqual(told, kept)


class Settled(unittest.TestCase):
    def test_none_is_all_free(self):
        self.assertEqual(settled_bounds(None, 2, 3), free(2, 3))

    def test_others_are_told_as_a_copy(self):
        self.assertEqual(settled_bounds(THREE_BY_FOUR, 3, 4), THREE_BY_FOUR)

    def test_the_copy_is_of_its_own(self):
        bounds = [[(0, 1), (2, 3)]]
        told = settled_bounds(bounds, 1, 2)
        bounds[0][0] = (7, 7)
        self.assertEqual(told, [[(0, 1), (2, 3)]])
        told[0][1] = (9, 9)
        self.assertEqual(bounds, [[(7, 7), (2, 3)]])


class Turned(unittest.TestCase):
    def test_turned(self):
        self.assertEqual(bounds_turned([[(1, 2)]]), [[(1, 2)]])
        self.assertEqual(bounds_turned(THREE_BY_FOUR), [
            [(0, 1), (1, 1), (2, 2)],
            [(0, 2), (1, 2), (2, 3)],
            [(0, 3), (1, 3), (2, 4)],
            [(0, 4), (1, 4), (2, 40)],
        ])

    def test_six_columns(self):
        pairs = [(0, high) for high in range(6)]
        self.assertEqual(bounds_turned([pairs]), [[pair] for pair in pairs])
        bounds = [[(row, row + column) for column in range(6)] for row in range(4)]
        told = bounds_turned(bounds)
        self.assertEqual([len(told)] + [len(row) for row in told], [6] + [4] * 6)
        for row in range(4):
            for column in range(6):
                self.assertEqual(told[column][row], (row, row + column))
        self.assertEqual(bounds_turned(told), bounds)


class Joined(unittest.TestCase):
    def test_rows(self):
        told = [[(1, 2), (1, 4), (1, 6), (1, 8)], [(2, 2), (2, 3), (2, 4), (2, 40)]]
        self.assertEqual(bounds_joined(THREE_BY_FOUR, 0, 1), told)
        self.assertEqual(bounds_joined(THREE_BY_FOUR, 0, 1, rows=True), told)
        self.assertEqual(bounds_joined(THREE_BY_FOUR, 1, 0), told)

    def test_the_joined_row_stands_where_the_first_named_stood(self):
        joined = [(2, 3), (2, 5), (2, 7), (2, 40)]
        self.assertEqual(bounds_joined(THREE_BY_FOUR, 0, 2), [joined, THREE_BY_FOUR[1]])
        self.assertEqual(bounds_joined(THREE_BY_FOUR, 2, 0), [THREE_BY_FOUR[1], joined])

    def test_columns(self):
        self.assertEqual(bounds_joined(THREE_BY_FOUR, 0, 2, rows=False), [
            [(0, 4), (0, 2), (0, 4)],
            [(2, 4), (1, 2), (1, 4)],
            [(4, 6), (2, 3), (2, 40)],
        ])
        self.assertEqual(bounds_joined(THREE_BY_FOUR, 3, 1, rows=False), [
            [(0, 1), (0, 3), (0, 6)],
            [(1, 1), (1, 3), (2, 6)],
            [(2, 2), (2, 4), (4, 40)],
        ])

    def test_six_columns(self):
        bounds = [[(0, high) for high in range(6)]]
        told = [[(0, 0), (0, 1), (0, 2), (0, 3), (0, 9)]]
        self.assertEqual(bounds_joined(bounds, 4, 5, rows=False), told)

    def test_no_high_above_forty(self):
        for one, other, told in [
            (FREE, FREE, (0, 40)),
            ((0, 19), (0, 20), (0, 39)),
            ((0, 20), (0, 20), (0, 40)),
            ((0, 20), (0, 21), (0, 40)),
            ((5, 30), (7, 30), (12, 40)),
            ((20, 40), (20, 40), (40, 40)),
            ((0, 0), (0, 0), (0, 0)),
        ]:
            with self.subTest(one=one, other=other):
                self.assertEqual(bounds_joined([[one], [other]], 0, 1), [[told]])
                self.assertEqual(bounds_joined([[one, other]], 1, 0, rows=False), [[told]])


class Parted(unittest.TestCase):
    def test_rows(self):
        loosened = [(0, 1), (0, 2), (0, 3), (0, 4)]
        told = [THREE_BY_FOUR[0], loosened, loosened, THREE_BY_FOUR[2]]
        self.assertEqual(bounds_parted(THREE_BY_FOUR, 1), told)
        self.assertEqual(bounds_parted(THREE_BY_FOUR, 1, rows=True), told)

    def test_first_and_last_row(self):
        bounds = [[(2, 3)], [(4, 5)]]
        self.assertEqual(bounds_parted(bounds, 0), [[(0, 3)], [(0, 3)], [(4, 5)]])
        self.assertEqual(bounds_parted(bounds, 1), [[(2, 3)], [(0, 5)], [(0, 5)]])

    def test_columns(self):
        self.assertEqual(bounds_parted(THREE_BY_FOUR, 3, rows=False), [
            [(0, 1), (0, 2), (0, 3), (0, 4), (0, 4)],
            [(1, 1), (1, 2), (1, 3), (0, 4), (0, 4)],
            [(2, 2), (2, 3), (2, 4), (0, 40), (0, 40)],
        ])
        self.assertEqual(bounds_parted([[(2, 3), (4, 5)]], 0, rows=False), [[(0, 3), (0, 3), (4, 5)]])

    def test_to_six_columns(self):
        told = bounds_parted([[(1, 2)] * 5] * 4, 2, rows=False)
        self.assertEqual(told, [[(1, 2), (1, 2), (0, 2), (0, 2), (1, 2), (1, 2)]] * 4)


if __name__ == "__main__":
    unittest.main()
