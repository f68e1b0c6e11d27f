import copy
import unittest

from edgetally.bounds import FREE
from edgetally.ends import ends, ends_hold
from edgetally.errors import BadSums, EdgeError
from edgetally.measures import KINDS, Measure
from edgetally.net import Net
from listing import all_free, listed_nets, nodes_with_tables, value_of


def ends_told(kind, rowsums, columnsums, bounds, place=(0, 0)):
    """The ends, with all tables from each node on listed."""
    settled = bounds or all_free(len(rowsums), len(columnsums))
    told = []
    for (level, rests), found in nodes_with_tables(rowsums, columnsums, settled).items():
        values = [value_of(kind, rowsums, columnsums, columns, place, level) for columns in found]
        told.append((level, rests, min(values), max(values)))
    return told


def cases(seed, many):
    """Nets with a measure of each kind, and their ends as the test reckons them."""
    for rowsums, columnsums, bounds, tables in listed_nets(seed, many):
        net = Net(rowsums, columnsums, bounds=bounds)
        for kind in KINDS:
            place = (len(rowsums) - 1, len(columnsums) // 2)
            measure = Measure(kind, rowsums, columnsums, place=place)
            yield net, measure, ends_told(kind, rowsums, columnsums, bounds, place)


class Ends(unittest.TestCase):
    def test_against_listing_the_tables(self):
        wide = 0
        for net, measure, told in cases(60, 150):
            with self.subTest(paper=net.paper(), kind=measure.kind):
                self.assertEqual(ends(net, measure), told)
                wide += told[0][2] != told[0][3]
        self.assertGreater(wide, 50)

    def test_nodes_without_tables_are_left_out(self):
        net = Net([2, 1], [1, 2], bounds=[[FREE, (0, 1)], [FREE, FREE]])
        self.assertEqual(net.counts_at(1, (2, 0)), (0, 0))
        self.assertEqual(len(net), 4)
        self.assertEqual(ends(net, Measure("rare", [2, 1], [1, 2])), [
            (0, (2, 1), 2, 2), (1, (1, 1), 2, 2), (2, (0, 0), 1, 1),
        ])

    def test_by_hand(self):
        net = Net([2, 1], [1, 2])
        self.assertEqual(ends(net, Measure("rare", [2, 1], [1, 2])), [
            (0, (2, 1), 1, 2), (1, (1, 1), 2, 2), (1, (2, 0), 1, 1), (2, (0, 0), 1, 1),
        ])
        self.assertEqual(ends(net, Measure("most", [2, 1], [1, 2], place=(0, 1))), [
            (0, (2, 1), 1, 2), (1, (1, 1), 1, 1), (1, (2, 0), 2, 2), (2, (0, 0), 0, 0),
        ])

    def test_the_last_level(self):
        for net, measure, told in cases(61, 40):
            begun = 1 if measure.kind in ("rare", "power") else 0
            rests = tuple(0 for row in net.rowsums())
            self.assertEqual(ends(net, measure)[-1], (len(net.columnsums()), rests, begun, begun))

    def test_kinds(self):
        told = ends(Net([2, 1], [1, 2]), Measure("off", [2, 1], [1, 2]))
        self.assertIs(type(told), list)
        self.assertTrue(all(type(row) is tuple and type(row[1]) is tuple for row in told))

    def test_a_told_list_changed_and_asked_again(self):
        net, measure = Net([2, 1], [1, 2]), Measure("off", [2, 1], [1, 2])
        told = ends(net, measure)
        again = copy.deepcopy(told)
        told[0] = 9
        told.pop()
        self.assertEqual(ends(net, measure), again)
        self.assertIs(ends_hold(net, measure, again), True)


class Hold(unittest.TestCase):
    def test_just_that_list(self):
        for net, measure, told in cases(62, 60):
            with self.subTest(paper=net.paper(), kind=measure.kind):
                stayed = copy.deepcopy(told)
                self.assertIs(ends_hold(net, measure, told), True)
                self.assertEqual(told, stayed)

    def test_another_list(self):
        for net, measure, told in cases(63, 25):
            for wrong in self.wrong(told):
                with self.subTest(paper=net.paper(), kind=measure.kind, wrong=wrong):
                    stayed = copy.deepcopy(wrong)
                    self.assertIs(ends_hold(net, measure, wrong), False)
                    self.assertEqual(wrong, stayed)

    def wrong(self, told):
        yield []
        yield told + told
        for at, (level, rests, least, greatest) in enumerate(told):
            ahead, behind = told[:at], told[at + 1:]
            yield ahead + behind
            yield ahead + [told[at], told[at]] + behind
            for change in (1, -1):
                yield ahead + [(level + change, rests, least, greatest)] + behind
                yield ahead + [(level, rests, least + change, greatest)] + behind
                yield ahead + [(level, rests, least, greatest + change)] + behind
                for row in range(len(rests)):
                    other = rests[:row] + (rests[row] + change,) + rests[row + 1:]
                    yield ahead + [(level, other, least, greatest)] + behind
            if behind:
                yield ahead + [behind[0], told[at]] + behind[1:]

    def test_the_ends_of_another_measure(self):
        net = Net([3, 2], [2, 3])
        told = ends(net, Measure("most", [3, 2], [2, 3]))
        self.assertIs(ends_hold(net, Measure("most", [3, 2], [2, 3]), told), True)
        self.assertIs(ends_hold(net, Measure("least", [3, 2], [2, 3]), told), True)
        self.assertIs(ends_hold(net, Measure("most", [3, 2], [2, 3], place=(0, 1)), told), False)
        self.assertIs(ends_hold(net, Measure("off", [3, 2], [2, 3]), told), False)


class Refused(unittest.TestCase):
    def test_a_measure_of_other_sums(self):
        net = Net([2, 1], [1, 2])
        for rowsums, columnsums in (
            ([1, 2], [1, 2]), ([2, 1], [2, 1]), ([1, 2], [2, 1]), ([2, 1, 0], [1, 2]), ([2, 1], [1, 2, 0]), ([3], [1, 2]),
            ([2, 1], [3]), ([3], [3]), ([2, 2], [2, 2]), ([0, 2, 1], [1, 2]),
        ):
            for kind in KINDS:
                measure = Measure(kind, rowsums, columnsums)
                with self.subTest(kind=kind, rowsums=rowsums, columnsums=columnsums):
                    with self.assertRaises(BadSums) as caught:
                        ends(net, measure)
                    self.assertIsInstance(caught.exception, EdgeError)
                    for rows in ([], [(0, (2, 1), 1, 2)], [()]):
                        with self.assertRaises(BadSums):
                            ends_hold(net, measure, rows)


if __name__ == "__main__":
    unittest.main()
