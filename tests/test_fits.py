import copy
import itertools
import random
import time
import unittest

from edgetally.bounds import FREE, free
from edgetally.errors import BadBounds, BadCell, BadSums, Barred, EdgeError
from edgetally.fits import fitting, room
from listing import BAD_SUMS, all_free, all_tables, drawn_bounds, drawn_sums, kept, sums_of


def room_told(rowsums, columnsums, over, into, bounds):
    """The room as point 12 tells it, cell by cell."""
    place = sum(columnsums[column] for column in into)
    for row, column in itertools.product(range(len(rowsums)), range(len(columnsums))):
        low, high = bounds[row][column]
        if column in into and row not in over:
            place -= low
        if column not in into and row in over:
            place += high
    return sum(rowsums[row] for row in over), place


def all_lists(many):
    return [list(chosen) for size in range(many + 1) for chosen in itertools.combinations(range(many), size)]


class Fitting(unittest.TestCase):
    def fits(self, rowsums, columnsums, bounds):
        rows = fitting(rowsums, columnsums, bounds=bounds)
        self.assertIsInstance(rows, list)
        self.assertTrue(all(type(row) is list for row in rows))
        self.assertEqual((len(rows), {len(row) for row in rows}), (len(rowsums), {len(columnsums)}))
        self.assertTrue(all(type(count) is int and count >= 0 for row in rows for count in row))
        self.assertEqual(sums_of(rows), (rowsums, columnsums))
        self.assertTrue(kept(rows, bounds or all_free(len(rowsums), len(columnsums))))

    def bars(self, rowsums, columnsums, bounds):
        with self.assertRaises(Barred) as caught:
            fitting(rowsums, columnsums, bounds=bounds)
        over, into = caught.exception.over, caught.exception.into
        for listed, many in ((over, len(rowsums)), (into, len(columnsums))):
            self.assertIsInstance(listed, list)
            self.assertEqual(listed, sorted(set(listed)))
            self.assertTrue(all(0 <= number < many for number in listed))
        need, place = room(rowsums, columnsums, over, into, bounds=bounds)
        self.assertGreater(need, place)
        self.assertEqual((need, place), room_told(rowsums, columnsums, over, into, bounds))
        self.assertEqual(caught.exception.word, "barred")
        self.assertIsInstance(caught.exception, EdgeError)

    def test_without_bounds_some_table_always_fits(self):
        chance = random.Random(20)
        for drawn in range(200):
            rows, columns = chance.randint(1, 4), chance.randint(1, 6)
            rowsums, columnsums = drawn_sums(chance, rows, columns, chance.randint(0, 40))
            with self.subTest(rowsums=rowsums, columnsums=columnsums):
                self.fits(rowsums, columnsums, None)
                self.fits(rowsums, columnsums, free(rows, columns))
                self.assertEqual(sums_of(fitting(rowsums, columnsums)), (rowsums, columnsums))

    def test_against_trying_all_tables(self):
        chance = random.Random(21)
        told = {True: 0, False: 0}
        for drawn in range(700):
            rows, columns = chance.randint(1, 3), chance.randint(1, 3)
            rowsums, columnsums = drawn_sums(chance, rows, columns, chance.randint(0, 5))
            bounds = drawn_bounds(chance, rows, columns, 4)
            some = bool(all_tables(rowsums, columnsums, bounds))
            told[some] += 1
            with self.subTest(rowsums=rowsums, columnsums=columnsums, bounds=bounds):
                (self.fits if some else self.bars)(rowsums, columnsums, bounds)
        # Both come often enough that neither is left unseen.
        self.assertGreater(min(told.values()), 100)

    def test_all_bounds_of_a_small_table(self):
        pairs = [(low, high) for low in range(3) for high in range(low, 3)]
        for one, two, three, four in itertools.product(pairs, repeat=4):
            bounds = [[one, two], [three, four]]
            for rowsums, columnsums in (([2, 1], [1, 2]), ([3, 0], [2, 1]), ([2, 2], [2, 2])):
                with self.subTest(rowsums=rowsums, columnsums=columnsums, bounds=bounds):
                    some = bool(all_tables(rowsums, columnsums, bounds))
                    (self.fits if some else self.bars)(rowsums, columnsums, bounds)

    def test_bounds_that_leave_one_table(self):
        chance = random.Random(22)
        for drawn in range(100):
            rows, columns = chance.randint(1, 4), chance.randint(1, 6)
            table = [[chance.randint(0, 1) for column in range(columns)] for row in range(rows)]
            table[chance.randrange(rows)][chance.randrange(columns)] += chance.randint(0, 16)
            bounds = [[(count, count) for count in row] for row in table]
            self.assertEqual(fitting(*sums_of(table), bounds=bounds), table)

    def test_lows_and_highs_each_bar(self):
        self.bars([1, 1], [1, 1], [[(2, 2), FREE], [FREE, FREE]])
        self.bars([1, 1], [1, 1], [[(1, 40), (1, 40)], [FREE, FREE]])
        self.bars([1, 1], [1, 1], [[(1, 40), FREE], [(1, 40), FREE]])
        self.bars([1, 1], [1, 1], [[(0, 0), (0, 0)], [FREE, FREE]])
        self.bars([1, 1], [1, 1], [[(0, 0), FREE], [(0, 0), FREE]])
        self.bars([2, 2], [2, 2], [[(0, 0), FREE], [FREE, (1, 1)]])
        self.bars([1], [1], [[(0, 0)]])
        self.bars([0], [0], [[(1, 1)]])
        self.fits([1, 1], [1, 1], [[(0, 0), FREE], [FREE, (0, 0)]])
        self.fits([0], [0], [[(0, 0)]])

    def test_at_once(self):
        chance = random.Random(23)
        began = time.perf_counter()
        for drawn in range(40):
            rowsums, columnsums = drawn_sums(chance, 4, 6, 40)
            self.fits(rowsums, columnsums, None)
            bounds = drawn_bounds(chance, 4, 6, 20)
            try:
                fitting(rowsums, columnsums, bounds=bounds)
            except Barred:
                self.bars(rowsums, columnsums, bounds)
            else:
                self.fits(rowsums, columnsums, bounds)
        self.fits([10] * 4, [7, 7, 7, 7, 6, 6], None)
        self.fits([10] * 4, [7, 7, 7, 7, 6, 6], [[(1, 2)] * 6] * 4)
        self.bars([10] * 4, [7, 7, 7, 7, 6, 6], [[(0, 1)] * 6] * 4)
        self.assertLess(time.perf_counter() - began, 20)

    def test_what_is_handed_in_stays_and_is_not_kept(self):
        rowsums, columnsums = [3, 2], [2, 3]
        bounds = [[FREE, (1, 2)], [(0, 1), FREE]]
        handed = copy.deepcopy((rowsums, columnsums, bounds))
        told = fitting(rowsums, columnsums, bounds=bounds)
        again = copy.deepcopy(told)
        told[0][0] = 9
        told.append([1])
        self.assertEqual(fitting(rowsums, columnsums, bounds=bounds), again)
        self.assertEqual((rowsums, columnsums, bounds), handed)
        barring = [[(0, 0), (0, 2)], [FREE, FREE]]
        with self.assertRaises(Barred) as caught:
            fitting(rowsums, columnsums, bounds=barring)
        caught.exception.over.append(7)
        caught.exception.into.append(7)
        self.bars(rowsums, columnsums, barring)
        self.assertEqual((rowsums, columnsums), handed[:2])
        self.assertEqual(barring, [[(0, 0), (0, 2)], [FREE, FREE]])


class Refused(unittest.TestCase):
    def both(self, error, rowsums, columnsums, bounds, over=(), into=()):
        with self.subTest(rowsums=rowsums, columnsums=columnsums, bounds=bounds):
            with self.assertRaises(error):
                fitting(rowsums, columnsums, bounds=bounds)
            with self.assertRaises(error):
                room(rowsums, columnsums, list(over), list(into), bounds=bounds)

    def test_sums(self):
        for rowsums, columnsums in BAD_SUMS:
            self.both(BadSums, rowsums, columnsums, None)
            with self.assertRaises(BadSums):
                fitting(rowsums, columnsums)
            with self.assertRaises(BadSums):
                room(rowsums, columnsums, [], [])

    def test_sums_at_the_edges_are_let(self):
        for rowsums, columnsums in (([0], [0]), ([40], [40]), ([10] * 4, [40, 0, 0, 0, 0, 0]), ([1], [0] * 5 + [1])):
            self.assertEqual(sums_of(fitting(rowsums, columnsums)), (rowsums, columnsums))
            self.assertEqual(room(rowsums, columnsums, [], []), (0, 0))

    def test_bounds_of_another_shape(self):
        shapes = [[], [[FREE] * 3], [[FREE] * 3] * 3, [[FREE] * 2] * 2, [[FREE] * 4] * 2, [[FREE] * 3, [FREE] * 2]]
        for bounds in shapes + [[[], []], [[FREE] * 2, [FREE] * 3], [[FREE] * 2] * 3]:
            self.both(BadBounds, [2, 1], [1, 1, 1], bounds)

    def test_bounds_with_a_bad_pair(self):
        for pair in ((-1, 2), (3, 2), (0, 41), (41, 41), (-2, -1), (40, 39)):
            for row, column in itertools.product(range(2), range(3)):
                bounds = free(2, 3)
                bounds[row][column] = pair
                self.both(BadBounds, [2, 1], [1, 1, 1], bounds)

    def test_cells(self):
        for over, into in (([-1], []), ([2], []), ([], [-1]), ([], [3]), ([0, 2], [0]), ([0], [1, 3]), ([-1, 0], [0])):
            with self.assertRaises(BadCell):
                room([2, 1], [1, 1, 1], over, into)
            with self.assertRaises(BadCell):
                room([2, 1], [1, 1, 1], over, into, bounds=free(2, 3, pair=(0, 0)))

    def test_order(self):
        shape, pair = [[FREE]], [[(0, 0), (0, 0), (0, 41)], [(0, 0)] * 3]
        for bounds in (shape, pair):
            # Sums ahead of bounds, bounds ahead of cells and of what bars.
            self.both(BadSums, [2, 1], [1, 1, 2], bounds, [9], [9])
            self.both(BadBounds, [2, 1], [1, 1, 1], bounds, [9], [9])
        self.both(BadSums, [2, 1], [1, 1, 2], None, [9], [9])
        with self.assertRaises(Barred):
            fitting([2, 1], [1, 1, 1], bounds=free(2, 3, pair=(0, 0)))


class Room(unittest.TestCase):
    def test_against_the_sum_that_the_point_tells(self):
        chance = random.Random(24)
        for drawn in range(60):
            rows, columns = chance.randint(1, 4), chance.randint(1, 6)
            rowsums, columnsums = drawn_sums(chance, rows, columns, chance.randint(0, 40))
            bounds = drawn_bounds(chance, rows, columns, 12)
            for over in all_lists(rows):
                into = chance.choice(all_lists(columns))
                with self.subTest(rowsums=rowsums, columnsums=columnsums, over=over, into=into, bounds=bounds):
                    told = room(rowsums, columnsums, over, into, bounds=bounds)
                    self.assertIsInstance(told, tuple)
                    self.assertEqual(told, room_told(rowsums, columnsums, over, into, bounds))

    def test_by_hand(self):
        bounds = [[(1, 2), (0, 3)], [(2, 5), (1, 4)]]
        self.assertEqual(room([4, 6], [5, 5], [0], [0], bounds=bounds), (4, 5 - 2 + 3))
        self.assertEqual(room([4, 6], [5, 5], [0], [1], bounds=bounds), (4, 5 - 1 + 2))
        self.assertEqual(room([4, 6], [5, 5], [1], [0, 1], bounds=bounds), (6, 10 - 1))
        self.assertEqual(room([4, 6], [5, 5], [0, 1], [], bounds=bounds), (10, 14))
        self.assertEqual(room([4, 6], [5, 5], [], [0, 1], bounds=bounds), (0, 10 - 4))

    def test_bounds_left_out_and_none(self):
        told = room([4, 6], [5, 5], [0], [1], bounds=free(2, 2))
        self.assertEqual(told, (4, 45))
        self.assertEqual(room([4, 6], [5, 5], [0], [1]), told)
        self.assertEqual(room([4, 6], [5, 5], [0], [1], bounds=None), told)

    def test_a_table_that_fits_never_has_more_than_room(self):
        chance = random.Random(25)
        for drawn in range(60):
            rowsums, columnsums = drawn_sums(chance, 3, 3, 6)
            bounds = drawn_bounds(chance, 3, 3, 6)
            if all_tables(rowsums, columnsums, bounds):
                for over, into in itertools.product(all_lists(3), repeat=2):
                    need, place = room(rowsums, columnsums, over, into, bounds=bounds)
                    self.assertLessEqual(need, place)

    def test_what_is_handed_in_stays(self):
        handed = ([4, 6], [5, 5], [0], [1], [[(1, 2), (0, 3)], [(2, 5), (1, 4)]])
        stayed = copy.deepcopy(handed)
        room(*handed[:4], bounds=handed[4])
        self.assertEqual(handed, stayed)


if __name__ == "__main__":
    unittest.main()
