import copy
import random
import unittest

from edgetally.errors import BadSums, BadTable, EdgeError
from edgetally.loops import loops, walked
from listing import sums_of

NO_TABLES = (
    [], [[]], [[1]] * 5, [[0] * 7], [[1, 2], [3]], [[1], []], [[-1]], [[2, -1], [0, 1]], [[41]], [[20, 1], [20, 0]],
)


def drawn_table(chance, rows, columns, many):
    told = [[0] * columns for row in range(rows)]
    for thing in range(many):
        told[chance.randrange(rows)][chance.randrange(columns)] += 1
    return told


def shuffled(chance, rows):
    """Another table of the same sums: all things dealt anew, each row's and each column's as many."""
    across = [row for row, counts in enumerate(rows) for thing in range(sum(counts))]
    down = [column for counts in rows for column, count in enumerate(counts) for thing in range(count)]
    chance.shuffle(down)
    told = [[0] * len(rows[0]) for row in rows]
    for row, column in zip(across, down):
        told[row][column] += 1
    return told


def drawn_pairs(seed, each):
    """Two tables of the same sums, of each shape from 1 by 1 to 4 by 6."""
    chance = random.Random(seed)
    for rows in range(1, 5):
        for columns in range(1, 7):
            for drawn in range(each):
                one = drawn_table(chance, rows, columns, chance.choice([0, 1, 2, 5, 10, 20, 39, 40]))
                yield one, shuffled(chance, one)


def signs(one, other):
    """1 where a cell has fewer in the one table than in the other, -1 where it has more, else 0."""
    return [[(here < there) - (here > there) for here, there in zip(*rows)] for rows in zip(one, other)]


class Loops(unittest.TestCase):
    def test_between_drawn_tables(self):
        longest = many = 0
        for one, other in drawn_pairs(100, 40):
            with self.subTest(one=one, other=other):
                told = loops(one, other)
                self.assertIs(type(told), list)
                for loop in told:
                    self.check_form(loop, signs(one, other))
                    longest = max(longest, len(loop[1]))
                differ = sum(abs(sign) for row in signs(one, other) for sign in row)
                self.assertLessEqual(len(told), differ)
                self.check_way(one, other, told)
                many = max(many, len(told))
        self.assertGreaterEqual(longest, 8)
        self.assertGreater(many, 6)

    def check_form(self, loop, sides):
        many, cells = loop
        self.assertEqual((type(loop), type(many), type(cells)), (tuple, int, list))
        self.assertTrue(all(type(cell) is tuple and len(cell) == 2 for cell in cells))
        self.assertGreater(many, 0)
        self.assertGreaterEqual(len(cells), 4)
        self.assertEqual(len(cells) % 2, 0)
        self.assertEqual(len(set(cells)), len(cells))
        for at, (row, column) in enumerate(cells):
            self.assertTrue(0 <= row < len(sides) and 0 <= column < len(sides[0]))
            self.assertEqual(sides[row][column], -1 if at % 2 else 1)
            next_row, next_column = cells[(at + 1) % len(cells)]
            self.assertEqual(row == next_row if at % 2 else column == next_column, True)

    def check_way(self, one, other, told):
        here = copy.deepcopy(one)
        for loop in told:
            here = walked(here, loop)
            self.assertEqual(sums_of(here), sums_of(one))
            for row, counts in enumerate(here):
                for column, count in enumerate(counts):
                    low, high = sorted([one[row][column], other[row][column]])
                    self.assertTrue(low <= count <= high)
        self.assertEqual(here, other)

    def test_by_hand(self):
        self.assertEqual(loops([[2, 0], [0, 2]], [[0, 2], [2, 0]]), [(2, [(0, 1), (1, 1), (1, 0), (0, 0)])])
        # One loop of all three rows: no two of them alone can be changed.
        one, other = [[1, 0, 0], [0, 1, 0], [0, 0, 1]], [[0, 1, 0], [0, 0, 1], [1, 0, 0]]
        told = loops(one, other)
        self.assertEqual([(many, len(cells)) for many, cells in told], [(1, 6)])
        self.check_form(told[0], signs(one, other))
        self.check_way(one, other, told)

    def test_none_for_equal_tables(self):
        for one, other in drawn_pairs(101, 3):
            self.assertEqual(loops(one, copy.deepcopy(one)), [])
            self.assertEqual(loops(one, one), [])

    def test_what_is_handed_in_stays_and_no_told_list_is_kept(self):
        for one, other in drawn_pairs(102, 5):
            ahead, behind = copy.deepcopy(one), copy.deepcopy(other)
            told = loops(one, other)
            again = copy.deepcopy(told)
            self.assertEqual((one, other), (ahead, behind))
            for many, cells in told:
                cells.clear()
            told.append(9)
            self.assertEqual(loops(one, other), again)


class Refused(unittest.TestCase):
    def test_unlike_shapes(self):
        for one, other in (
            ([[0]], [[0, 0]]), ([[0]], [[0], [0]]), ([[1, 2], [0, 4]], [[1, 2, 0], [0, 4, 0]]),
            ([[1, 2], [0, 4]], [[1, 2], [0, 4], [0, 0]]), ([[1, 2]], [[1], [2]]),
        ):
            for rows, others in ((one, other), (other, one)):
                with self.assertRaises(BadSums) as caught:
                    loops(rows, others)
                self.assertIsInstance(caught.exception, EdgeError)

    def test_unlike_sums(self):
        for one, other in (
            ([[1]], [[2]]), ([[1, 2], [0, 4]], [[1, 2], [0, 3]]), ([[1, 0]], [[0, 1]]), ([[1], [0]], [[0], [1]]),
            ([[1, 0], [0, 1]], [[1, 0], [1, 0]]), ([[1, 0], [0, 1]], [[1, 1], [0, 0]]),
        ):
            for rows, others in ((one, other), (other, one)):
                with self.assertRaises(BadSums):
                    loops(rows, others)

    def test_no_table_on_either_side(self):
        for rows in NO_TABLES:
            for other in ([[1]], [[0, 0], [0, 0]]) + NO_TABLES:
                with self.subTest(rows=rows, other=other):
                    with self.assertRaises(BadTable) as caught:
                        loops(rows, other)
                    self.assertIsInstance(caught.exception, EdgeError)
                    with self.assertRaises(BadTable):
                        loops(other, rows)
            with self.assertRaises(BadTable):
                loops(rows, copy.deepcopy(rows))


class Walked(unittest.TestCase):
    LOOP = (3, [(0, 1), (1, 1), (1, 0), (0, 0)])

    def test_gives_at_even_places_and_takes_at_odd_ones(self):
        self.assertEqual(walked([[5, 5], [5, 5]], self.LOOP), [[2, 8], [8, 2]])
        self.assertEqual(walked([[5, 5, 1], [5, 5, 1], [9, 9, 9]], self.LOOP), [[2, 8, 1], [8, 2, 1], [9, 9, 9]])

    def test_counts_below_nought_and_above_forty(self):
        self.assertEqual(walked([[0, 40], [40, 0]], self.LOOP), [[-3, 43], [43, -3]])
        self.assertEqual(walked([[-7, 99], [1000, -1]], self.LOOP), [[-10, 102], [1003, -4]])
        self.assertEqual(walked([[0, 0], [0, 0]], (10 ** 9, self.LOOP[1])),
                         [[-10 ** 9, 10 ** 9], [10 ** 9, -10 ** 9]])

    def test_rows_beyond_the_bounds_of_tables(self):
        rows = [[1] * 8 for row in range(7)]
        told = walked(rows, (1, [(6, 7), (0, 7), (0, 0), (6, 0)]))
        self.assertEqual((told[6][7], told[0][7], told[0][0], told[6][0]), (2, 0, 2, 0))
        self.assertEqual(sum(map(sum, told)), 56)

    def test_rows_and_cells_handed_in_stay(self):
        rows, loop = [[5, 5], [5, 5]], copy.deepcopy(self.LOOP)
        told = walked(rows, loop)
        self.assertEqual((rows, loop), ([[5, 5], [5, 5]], self.LOOP))
        told[0][0] = 9
        told.pop()
        self.assertEqual(rows, [[5, 5], [5, 5]])
        self.assertEqual(walked(rows, loop), [[2, 8], [8, 2]])


if __name__ == "__main__":
    unittest.main()
