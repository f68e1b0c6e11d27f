import itertools
import random
import unittest

from edgetally.errors import BadCell, BadRule, BadSums, EdgeError
from edgetally.measures import KINDS, Measure
from listing import BAD_SUMS, columns_of, listed_nets, stranger, sums_of, table_value, value_of

PRODUCTS = ("rare", "power")
PLACED = ("most", "least")


def drawn_table(chance):
    rows, columns = chance.randint(1, 4), chance.randint(1, 6)
    told = [[0] * columns for row in range(rows)]
    for thing in range(chance.randint(0, 40)):
        told[chance.randrange(rows)][chance.randrange(columns)] += 1
    for row in told:
        # Row sums of nought come now and then.
        if chance.random() < 0.2:
            row[:] = [0] * columns
    return told


class Values(unittest.TestCase):
    def drawn(self, seed, many):
        chance = random.Random(seed)
        for number in range(many):
            rows = drawn_table(chance)
            place = (chance.randrange(len(rows)), chance.randrange(len(rows[0])))
            for kind in KINDS:
                yield kind, rows, place, Measure(kind, *sums_of(rows), place=place)

    def test_kinds(self):
        self.assertEqual(KINDS, ("rare", "square", "power", "off", "most", "least"))
        self.assertIs(type(KINDS), tuple)

    def test_of_against_what_the_point_tells(self):
        for kind, rows, place, measure in self.drawn(50, 150):
            told = measure.of(rows)
            with self.subTest(kind=kind, rows=rows, place=place):
                self.assertIs(type(told), int)
                self.assertEqual(told, table_value(kind, rows, place))

    def test_of_each_table_of_small_sums(self):
        for rowsums, columnsums, bounds, tables in listed_nets(51, 60):
            for kind in KINDS:
                measure = Measure(kind, rowsums, columnsums)
                for rows in tables:
                    self.assertEqual(measure.of(rows), table_value(kind, rows))

    def test_by_hand(self):
        rows = [[1, 2], [3, 0]]
        # The sums are 3, 3 and 4, 2; the products 12 and 6 go into 12.
        for kind, told in (
            ("rare", 4 * 1),
            ("square", 1 * 1 + 4 * 2 + 9 * 1 + 0),
            ("power", 1 * 4 * 27 * 1),
            ("off", abs(6 - 12) + abs(12 - 6) + abs(18 - 12) + abs(0 - 6)),
            ("most", 1),
            ("least", 1),
        ):
            self.assertEqual(Measure(kind, [3, 3], [4, 2]).of(rows), told, kind)
        for place, told in (((0, 0), 1), ((0, 1), 2), ((1, 0), 3), ((1, 1), 0)):
            for kind in PLACED:
                self.assertEqual(Measure(kind, [3, 3], [4, 2], place=place).of(rows), told)

    def test_sums_of_nought(self):
        rows = [[0, 0, 0], [2, 0, 1]]
        for kind, told in (("rare", 1), ("square", 4 * 1 + 1 * 2), ("power", 4), ("off", 0), ("most", 0), ("least", 0)):
            self.assertEqual(Measure(kind, [0, 3], [2, 0, 1]).of(rows), told, kind)
        for kind, told in (("rare", 1), ("square", 0), ("power", 1), ("off", 0), ("most", 0), ("least", 0)):
            self.assertEqual(Measure(kind, [0, 0], [0]).of([[0], [0]]), told, kind)

    def test_of_is_the_parts_going_together(self):
        for kind, rows, place, measure in self.drawn(52, 60):
            gathered = measure.begun()
            for column, counts in enumerate(columns_of(rows)):
                gathered = measure.together(gathered, measure.part(column, counts))
            self.assertEqual(measure.of(rows), gathered)

    def test_part_of_a_list_and_of_a_tuple(self):
        for kind, rows, place, measure in self.drawn(53, 60):
            for column, counts in enumerate(columns_of(rows)):
                told = value_of(kind, *sums_of(rows), [counts], place, column)
                self.assertEqual(measure.part(column, counts), told)
                self.assertEqual(measure.part(column, tuple(counts)), told)

    def test_begun_and_together(self):
        for kind in KINDS:
            measure = Measure(kind, [3, 3], [4, 2])
            self.assertEqual(measure.begun(), 1 if kind in PRODUCTS else 0)
            self.assertIs(type(measure.begun()), int)
            for one, other in itertools.product((0, 1, 2, 5, 12), repeat=2):
                self.assertEqual(measure.together(one, other), one * other if kind in PRODUCTS else one + other)

    def test_beyond_both_ways_and_equal(self):
        for kind in KINDS:
            measure = Measure(kind, [3, 3], [4, 2])
            for value, seen in itertools.product((-1, 0, 1, 2, 100), repeat=2):
                self.assertIs(measure.beyond(value, seen), stranger(kind, value, seen))
            self.assertIs(measure.beyond(7, 7), True)
            self.assertIs(measure.beyond(6, 7), kind in ("rare", "least"))
            self.assertIs(measure.beyond(8, 7), kind not in ("rare", "least"))

    def test_place_left_out(self):
        for kind in PLACED:
            measure = Measure(kind, [3, 3], [4, 2])
            for rows in ([[1, 2], [3, 0]], [[3, 0], [1, 2]], [[2, 1], [2, 1]]):
                self.assertEqual(measure.of(rows), rows[0][0])
                self.assertEqual(measure.of(rows), Measure(kind, [3, 3], [4, 2], place=(0, 0)).of(rows))

    def test_the_greatest(self):
        self.assertEqual(Measure("power", [40], [40]).of([[40]]), 40 ** 40)
        rows = [[10], [10], [10], [10]]
        self.assertEqual(Measure("rare", [10] * 4, [40]).of(rows), table_value("rare", rows))


class Refused(unittest.TestCase):
    def test_sums(self):
        for rowsums, columnsums in BAD_SUMS:
            for kind in KINDS + ("other",):
                for place in ((0, 0), (9, 9)):
                    with self.assertRaises(BadSums):
                        Measure(kind, rowsums, columnsums, place=place)

    def test_another_kind(self):
        for kind in ("", "Rare", "rare ", "middle", "mean", "beyond", "rare,square"):
            for place in ((0, 0), (-1, 0), (9, 9)):
                with self.assertRaises(BadRule) as caught:
                    Measure(kind, [3, 3], [4, 2], place=place)
                self.assertIsInstance(caught.exception, EdgeError)

    def test_a_place_that_is_not_there(self):
        for place in ((-1, 0), (0, -1), (2, 0), (0, 3), (2, 3), (-1, -1), (2, 1), (1, 3), (3, 0)):
            for kind in KINDS:
                with self.subTest(kind=kind, place=place):
                    if kind in PLACED:
                        with self.assertRaises(BadCell):
                            Measure(kind, [3, 3], [4, 1, 1], place=place)
                    else:
                        rows = [[2, 1, 0], [2, 0, 1]]
                        told = Measure(kind, [3, 3], [4, 1, 1], place=place).of(rows)
                        self.assertEqual(told, table_value(kind, rows))

    def test_each_place_that_is_there(self):
        rows = [[2, 1, 0], [2, 0, 1]]
        for row, column in itertools.product(range(2), range(3)):
            for kind in PLACED:
                told = Measure(kind, [3, 3], [4, 1, 1], place=(row, column)).of(rows)
                self.assertEqual(told, rows[row][column])


class Kept(unittest.TestCase):
    def test_lists_handed_in_stay_and_are_not_kept(self):
        for kind in KINDS:
            rowsums, columnsums, rows, counts = [3, 3], [4, 2], [[1, 2], [3, 0]], [1, 3]
            measure = Measure(kind, rowsums, columnsums)
            ahead = measure.of(rows), measure.part(0, counts)
            self.assertEqual((rowsums, columnsums, rows, counts), ([3, 3], [4, 2], [[1, 2], [3, 0]], [1, 3]))
            rowsums[0] = 9
            rowsums.append(1)
            columnsums[1] = 7
            columnsums.append(1)
            self.assertEqual((measure.of(rows), measure.part(0, counts)), ahead)

    def test_sums_told_changed(self):
        for kind in KINDS:
            measure = Measure(kind, [3, 3], [4, 2])
            ahead = measure.of([[1, 2], [3, 0]])
            measure.rowsums().append(1)
            measure.columnsums()[0] = 9
            self.assertEqual((measure.rowsums(), measure.columnsums()), ([3, 3], [4, 2]))
            self.assertEqual(measure.of([[1, 2], [3, 0]]), ahead)


if __name__ == "__main__":
    unittest.main()
