import copy
import random
import unittest

from edgetally.bounds import MOST, bounds_joined, bounds_parted, bounds_turned, keeps
from edgetally.errors import BadCell, BadTable, EdgeError
from edgetally.table import Table
from listing import columns_of

# No two rows and no two columns are alike, so that one at a wrong place is seen.
THREE_BY_FOUR = [[0, 1, 2, 3], [4, 5, 6, 7], [8, 1, 2, 1]]


def drawn_rows(chance, rows, columns, many):
    told = [[0] * columns for row in range(rows)]
    for thing in range(many):
        told[chance.randrange(rows)][chance.randrange(columns)] += 1
    return told


class Made(unittest.TestCase):
    def refused(self, rows):
        with self.assertRaises(BadTable):
            Table(rows)
        with self.assertRaises(EdgeError) as caught:
            Table(rows)
        self.assertEqual(caught.exception.word, "table")

    def test_no_row_or_no_column(self):
        self.refused([])
        for rows in range(1, 6):
            self.refused([[] for row in range(rows)])

    def test_too_many_rows_or_columns(self):
        for columns in range(1, 8):
            self.refused([[0] * columns for row in range(5)])
        for rows in range(1, 6):
            self.refused([[0] * 7 for row in range(rows)])

    def test_rows_of_unlike_lengths(self):
        chance = random.Random(7)
        for drawn in range(200):
            rows, columns = chance.randint(2, 4), chance.randint(1, 6)
            table = drawn_rows(chance, rows, columns, chance.randint(0, 20))
            at = chance.randrange(rows)
            table[at] = chance.choice([table[at] + [0], table[at][:-1], []])
            with self.subTest(table=table):
                self.refused(table)

    def test_a_count_below_nought(self):
        chance = random.Random(8)
        for drawn in range(200):
            rows, columns = chance.randint(1, 4), chance.randint(1, 6)
            table = drawn_rows(chance, rows, columns, chance.randint(0, 40))
            table[chance.randrange(rows)][chance.randrange(columns)] = chance.choice([-1, -1, -2, -41])
            with self.subTest(table=table):
                self.refused(table)

    def test_more_than_40_things(self):
        chance = random.Random(9)
        for drawn in range(200):
            rows, columns = chance.randint(1, 4), chance.randint(1, 6)
            table = drawn_rows(chance, rows, columns, 40)
            self.assertEqual(Table(table).total(), 40)
            table[chance.randrange(rows)][chance.randrange(columns)] += 1
            with self.subTest(table=table):
                self.refused(table)

    def test_at_the_edges(self):
        for rows in ([[0]], [[40]], [[0] * 6 for row in range(4)], [[0], [0], [0], [40]], [[1, 2, 3, 4, 5, 25]]):
            self.assertEqual(Table(rows).cells(), rows)
        widest = [[1, 2, 1, 2, 1, 3]] * 4
        self.assertEqual(Table(widest).total(), 40)
        self.assertEqual(Table(widest).cells(), widest)


class Asked(unittest.TestCase):
    def test_sums(self):
        chance = random.Random(10)
        for drawn in range(100):
            rows = drawn_rows(chance, chance.randint(1, 4), chance.randint(1, 6), chance.randint(0, 40))
            table = Table(rows)
            with self.subTest(rows=rows):
                self.assertEqual(table.cells(), rows)
                self.assertEqual(table.rowsums(), [sum(row) for row in rows])
                self.assertEqual(table.columnsums(), [sum(column) for column in columns_of(rows)])
                self.assertEqual(table.total(), sum(map(sum, rows)))
                self.assertEqual(len(table), len(rows))

    def test_kinds(self):
        table = Table([[1, 2], [0, 4]])
        self.assertIsInstance(table.cells(), list)
        self.assertIsInstance(table.cells()[0], list)
        self.assertIsInstance(table.rowsums(), list)
        self.assertIsInstance(table.columnsums(), list)
        self.assertIs(type(table.total()), int)

    def test_str_and_repr(self):
        self.assertEqual(str(Table([[1, 2], [0, 4]])), "1 2 / 0 4")
        self.assertEqual(repr(Table([[1, 2], [0, 4]])), "Table([[1, 2], [0, 4]])")
        self.assertEqual(str(Table([[0]])), "0")
        self.assertEqual(repr(Table([[0]])), "Table([[0]])")
        self.assertEqual(str(Table([[10, 0, 12], [3, 15, 0]])), "10 0 12 / 3 15 0")
        self.assertEqual(repr(Table([[10, 0, 12], [3, 15, 0]])), "Table([[10, 0, 12], [3, 15, 0]])")
        self.assertEqual(str(Table([[10], [11], [12], [7]])), "10 / 11 / 12 / 7")
        self.assertEqual(repr(Table([[40, 0, 0, 0, 0, 0]])), "Table([[40, 0, 0, 0, 0, 0]])")

    def test_equal_just_where_the_counts_are(self):
        table = Table([[1, 2], [0, 4]])
        self.assertTrue(table == Table([[1, 2], [0, 4]]))
        self.assertFalse(table != Table([[1, 2], [0, 4]]))
        for row in range(2):
            for column in range(2):
                rows = [[1, 2], [0, 4]]
                rows[row][column] += 1
                self.assertFalse(table == Table(rows))
                self.assertTrue(table != Table(rows))
        # The same sums, but other counts; then other shapes of the same counts in a row.
        self.assertFalse(table == Table([[0, 3], [1, 3]]))
        self.assertFalse(table == Table([[1, 2, 0, 4]]))
        self.assertFalse(table == Table([[1], [2], [0], [4]]))
        self.assertFalse(table == Table([[1, 2]]))
        self.assertFalse(table == Table([[1, 2], [0, 4], [0, 0]]))
        self.assertFalse(table == Table([[1, 2, 0], [0, 4, 0]]))

    def test_equal_to_nothing_that_is_no_table(self):
        table = Table([[1, 2], [0, 4]])
        for other in ([[1, 2], [0, 4]], ((1, 2), (0, 4)), "1 2 / 0 4", repr(table), None, 7, True, table.cells):
            self.assertFalse(table == other)
            self.assertTrue(table != other)
            self.assertIs(Table.__eq__(table, other), False)

    def all_asked(self, table):
        return [
            table.cells(), table.rowsums(), table.columnsums(), table.total(), len(table), str(table), repr(table),
            table.turned(), table.joined(0, 1), table.parted(0, [0, 1]), table.more(0, 0),
        ]

    def test_rows_handed_in_and_lists_told_changed(self):
        rows = [[1, 2], [0, 4]]
        table = Table(rows)
        ahead = copy.deepcopy(self.all_asked(table))
        self.assertEqual(rows, [[1, 2], [0, 4]])
        rows[0][0] = 9
        rows.append([5, 5])
        self.assertEqual(self.all_asked(table), ahead)
        for told in (table.cells(), table.cells()[1], table.rowsums(), table.columnsums()):
            told[0] = 9
            told.append(9)
            self.assertEqual(self.all_asked(table), ahead)
        told = table.cells()
        told[0][1] = 9
        told[1].clear()
        self.assertEqual(self.all_asked(table), ahead)

    def test_the_same_row_handed_in_twice_is_two(self):
        row = [1, 2]
        table = Table([row, row])
        self.assertEqual(table.more(0, 0).cells(), [[2, 2], [1, 2]])
        told = table.cells()
        told[0][0] = 9
        self.assertEqual(told[1], [1, 2])


class Turned(unittest.TestCase):
    def test_rows_become_columns(self):
        self.assertEqual(Table(THREE_BY_FOUR).turned(), Table([[0, 4, 8], [1, 5, 1], [2, 6, 2], [3, 7, 1]]))
        self.assertEqual(Table([[7]]).turned(), Table([[7]]))
        self.assertEqual(Table([[1, 2, 3, 4]]).turned(), Table([[1], [2], [3], [4]]))
        self.assertEqual(Table(THREE_BY_FOUR).turned().turned(), Table(THREE_BY_FOUR))

    def test_more_than_four_columns(self):
        for columns in (5, 6):
            for rows in range(1, 5):
                with self.assertRaises(BadTable):
                    Table([[1] * columns for row in range(rows)]).turned()

    def test_the_table_stays(self):
        table = Table(THREE_BY_FOUR)
        table.turned()
        self.assertEqual(table, Table(THREE_BY_FOUR))


def joined_rows(rows, one, other):
    told = [list(row) for row in rows]
    told[one] = [here + there for here, there in zip(rows[one], rows[other])]
    return told[:other] + told[other + 1:]


class Joined(unittest.TestCase):
    def test_rows(self):
        table = Table(THREE_BY_FOUR)
        self.assertEqual(table.joined(0, 2), Table([[8, 2, 4, 4], [4, 5, 6, 7]]))
        self.assertEqual(table.joined(2, 0), Table([[4, 5, 6, 7], [8, 2, 4, 4]]))
        self.assertEqual(table.joined(1, 0), Table([[4, 6, 8, 10], [8, 1, 2, 1]]))
        self.assertEqual(table.joined(1, 2), Table([[0, 1, 2, 3], [12, 6, 8, 8]]))

    def test_columns(self):
        table = Table(THREE_BY_FOUR)
        self.assertEqual(table.joined(0, 3, rows=False), Table([[3, 1, 2], [11, 5, 6], [9, 1, 2]]))
        self.assertEqual(table.joined(3, 0, rows=False), Table([[1, 2, 3], [5, 6, 11], [1, 2, 9]]))
        self.assertEqual(table.joined(1, 2, rows=False), Table([[0, 3, 3], [4, 11, 7], [8, 3, 1]]))

    def test_rows_handed_in_or_left_out(self):
        table = Table(THREE_BY_FOUR)
        self.assertEqual(table.joined(0, 2, rows=True), table.joined(0, 2))
        self.assertNotEqual(table.joined(0, 2, rows=False), table.joined(0, 2))

    def test_all_pairs_of_drawn_tables(self):
        chance = random.Random(11)
        for drawn in range(60):
            rows = drawn_rows(chance, chance.randint(1, 4), chance.randint(1, 6), chance.randint(0, 40))
            for one in range(-1, len(rows) + 1):
                for other in range(-1, len(rows) + 1):
                    self.held(rows, one, other, True)
            for one in range(-1, len(rows[0]) + 1):
                for other in range(-1, len(rows[0]) + 1):
                    self.held(rows, one, other, False)

    def held(self, rows, one, other, by_rows):
        table = Table(rows)
        many = len(rows) if by_rows else len(rows[0])
        with self.subTest(rows=rows, one=one, other=other, by_rows=by_rows):
            if one == other or not 0 <= one < many or not 0 <= other < many:
                with self.assertRaises(BadCell):
                    table.joined(one, other, rows=by_rows)
            elif by_rows:
                self.assertEqual(table.joined(one, other, rows=True).cells(), joined_rows(rows, one, other))
            else:
                turned = joined_rows(columns_of(rows), one, other)
                self.assertEqual(table.joined(one, other, rows=False).cells(), columns_of(turned))
            self.assertEqual(table.cells(), rows)

    def test_the_only_one(self):
        for one, other in ((0, 0), (0, 1), (1, 0), (-1, 0), (0, -1)):
            with self.assertRaises(BadCell):
                Table([[1, 2]]).joined(one, other)
            with self.assertRaises(BadCell):
                Table([[1], [2]]).joined(one, other, rows=False)

    def test_columns_of_a_wide_table(self):
        table = Table([[1, 2, 3, 4, 5, 6]])
        self.assertEqual(table.joined(5, 0, rows=False), Table([[2, 3, 4, 5, 7]]))


class Parted(unittest.TestCase):
    def test_rows(self):
        table = Table([[1, 2], [0, 4]])
        self.assertEqual(table.parted(0, [1, 0]), Table([[0, 2], [1, 0], [0, 4]]))
        self.assertEqual(table.parted(1, [0, 3]), Table([[1, 2], [0, 1], [0, 3]]))
        self.assertEqual(table.parted(1, [0, 0]), Table([[1, 2], [0, 4], [0, 0]]))
        self.assertEqual(table.parted(0, [1, 2]), Table([[0, 0], [1, 2], [0, 4]]))

    def test_columns(self):
        table = Table([[1, 2, 3], [0, 4, 5]])
        self.assertEqual(table.parted(0, [1, 0], rows=False), Table([[0, 1, 2, 3], [0, 0, 4, 5]]))
        self.assertEqual(table.parted(1, [1, 3], rows=False), Table([[1, 1, 1, 3], [0, 1, 3, 5]]))
        self.assertEqual(table.parted(2, [0, 5], rows=False), Table([[1, 2, 3, 0], [0, 4, 0, 5]]))

    def test_rows_handed_in_or_left_out(self):
        table = Table([[1, 2], [0, 4]])
        self.assertEqual(table.parted(0, [1, 0], rows=True), table.parted(0, [1, 0]))
        self.assertNotEqual(table.parted(0, [1, 0], rows=False), table.parted(0, [1, 0]))

    def test_parted_and_joined_back(self):
        chance = random.Random(12)
        for drawn in range(200):
            rows = drawn_rows(chance, chance.randint(1, 4), chance.randint(1, 6), chance.randint(0, 40))
            by_rows = len(rows) < 4 and (len(rows[0]) == 6 or chance.random() < 0.5)
            if not by_rows and len(rows[0]) == 6:
                continue
            lines = rows if by_rows else columns_of(rows)
            one = chance.randrange(len(lines))
            taken = [chance.randint(0, count) for count in lines[one]]
            parted = Table(rows).parted(one, taken, rows=by_rows)
            with self.subTest(rows=rows, one=one, taken=taken, by_rows=by_rows):
                behind = parted.cells() if by_rows else columns_of(parted.cells())
                self.assertEqual(behind[one + 1], taken)
                self.assertEqual(parted.joined(one, one + 1, rows=by_rows), Table(rows))

    def test_what_is_not_there(self):
        table = Table([[1, 2, 3], [0, 4, 5]])
        for one in (-1, 2, 3, -2):
            with self.assertRaises(BadCell):
                table.parted(one, [0, 0, 0])
        for one in (-1, 3, 4, -3):
            with self.assertRaises(BadCell):
                table.parted(one, [0, 0], rows=False)

    def test_counts_that_are_not_as_many(self):
        table = Table([[1, 2, 3], [0, 4, 5]])
        for taken in ([], [0], [0, 0], [0, 0, 0, 0]):
            with self.assertRaises(BadTable):
                table.parted(0, taken)
        for taken in ([], [0], [0, 0, 0]):
            with self.assertRaises(BadTable):
                table.parted(0, taken, rows=False)

    def test_counts_below_nought_or_above_what_stands_there(self):
        table = Table([[1, 2, 3], [0, 4, 5]])
        for at in range(3):
            for many in (-1, [1, 2, 3][at] + 1):
                taken = [0, 0, 0]
                taken[at] = many
                with self.assertRaises(BadTable):
                    table.parted(0, taken)
        for at in range(2):
            for many in (-1, [2, 4][at] + 1):
                taken = [0, 0]
                taken[at] = many
                with self.assertRaises(BadTable):
                    table.parted(1, taken, rows=False)

    def test_too_many_behind(self):
        four = Table([[1, 1], [1, 1], [1, 1], [1, 1]])
        six = Table([[1] * 6, [1] * 6])
        for one in range(4):
            with self.assertRaises(BadTable):
                four.parted(one, [1, 0])
        for one in range(6):
            with self.assertRaises(BadTable):
                six.parted(one, [1, 0], rows=False)
        self.assertEqual(len(six.parted(0, [0] * 6)), 3)
        self.assertEqual(len(four.parted(0, [0] * 4, rows=False).cells()[0]), 3)

    def test_bad_cell_ahead_of_bad_table(self):
        four = Table([[1, 1], [1, 1], [1, 1], [1, 1]])
        six = Table([[1] * 6])
        for taken in ([], [0], [-1, 0], [2, 0], [0, 0], [0, 0, 0]):
            for one in (-1, 4):
                with self.assertRaises(BadCell):
                    four.parted(one, taken)
        for taken in ([], [-1], [2], [0], [0, 0]):
            for one in (-1, 6):
                with self.assertRaises(BadCell):
                    six.parted(one, taken, rows=False)

    def test_what_is_handed_in_stays_and_is_not_kept(self):
        table, taken = Table([[1, 2], [0, 4]]), [1, 0]
        parted = table.parted(0, taken)
        self.assertEqual(taken, [1, 0])
        taken[1] = 7
        self.assertEqual(parted, Table([[0, 2], [1, 0], [0, 4]]))
        self.assertEqual(table, Table([[1, 2], [0, 4]]))


class More(unittest.TestCase):
    def test_every_cell(self):
        for row in range(2):
            for column in range(3):
                for many in (-1, 0, 1, 2, 25):
                    rows = [[1, 2, 3], [2, 3, 4]]
                    rows[row][column] += many
                    told = Table([[1, 2, 3], [2, 3, 4]]).more(row, column, many=many)
                    self.assertEqual(told.cells(), rows)

    def test_many_left_out_nought_and_below(self):
        table = Table([[1, 2], [0, 4]])
        self.assertEqual(table.more(1, 0), Table([[1, 2], [1, 4]]))
        self.assertEqual(table.more(1, 0, many=0), table)
        self.assertEqual(table.more(1, 1, many=-4), Table([[1, 2], [0, 0]]))
        self.assertEqual(table.more(0, 1, many=-1), Table([[1, 1], [0, 4]]))
        self.assertEqual(table.more(0, 1, many=33), Table([[1, 35], [0, 4]]))
        self.assertEqual(table, Table([[1, 2], [0, 4]]))

    def test_cells_that_are_not_there(self):
        table = Table([[1, 2, 3], [0, 4, 5]])
        for row, column in ((-1, 0), (2, 0), (0, -1), (0, 3), (2, 3), (-1, -1), (-2, -3), (2, 2)):
            for many in (1, 0, -1, -9, 99):
                with self.assertRaises(BadCell):
                    table.more(row, column, many=many)
            with self.assertRaises(BadCell):
                table.more(row, column)

    def test_below_nought_or_more_than_40(self):
        table = Table([[1, 2], [0, 4]])
        for row, column, many in ((0, 0, -2), (0, 1, -3), (1, 0, -1), (1, 1, -5), (1, 0, 34), (0, 0, 1000)):
            with self.assertRaises(BadTable):
                table.more(row, column, many=many)
        with self.assertRaises(BadTable):
            Table([[40]]).more(0, 0)
        self.assertEqual(Table([[39]]).more(0, 0), Table([[40]]))
        self.assertEqual(table, Table([[1, 2], [0, 4]]))


class BoundsAlong(unittest.TestCase):
    def test_what_keeps_its_bounds_keeps_those_that_go_along(self):
        chance = random.Random(13)
        for drawn in range(200):
            rows = drawn_rows(chance, chance.randint(2, 3), chance.randint(2, 4), chance.randint(0, 40))
            bounds = [
                [(chance.randint(0, count), chance.randint(count, MOST)) for count in counts] for counts in rows
            ]
            table, by_rows = Table(rows), chance.random() < 0.5
            many = len(rows) if by_rows else len(rows[0])
            one, other = chance.sample(range(many), 2)
            taken = [chance.randint(0, count) for count in (rows[one] if by_rows else columns_of(rows)[one])]
            with self.subTest(rows=rows, bounds=bounds, by_rows=by_rows, one=one, other=other, taken=taken):
                self.assertTrue(keeps(table.turned().cells(), bounds_turned(bounds)))
                joined = table.joined(one, other, rows=by_rows).cells()
                self.assertTrue(keeps(joined, bounds_joined(bounds, one, other, rows=by_rows)))
                parted = table.parted(one, taken, rows=by_rows).cells()
                self.assertTrue(keeps(parted, bounds_parted(bounds, one, rows=by_rows)))


if __name__ == "__main__":
    unittest.main()
