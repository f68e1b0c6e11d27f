import copy
import itertools
import math
import random
import time
import unittest

from edgetally.bounds import FREE, free
from edgetally.errors import BadBounds, BadSums, Barred, EdgeError, TooWide
from edgetally.fits import room
from edgetally.net import WIDE, Net, net_holds
from listing import (
    BAD_SUMS,
    all_columns,
    all_free,
    all_tables,
    columns_of,
    dealings_of,
    drawn_nets,
    drawn_sums,
    ways_of,
)


def left(rests, counts):
    return tuple(rest - count for rest, count in zip(rests, counts))


def nodes_told(rowsums, columnsums, bounds):
    """Each level's nodes, with the fillings that lead on from each, as point 14 tells them."""
    levels = [{tuple(rowsums): None}]
    for column, many in enumerate(columnsums):
        for rests in levels[column]:
            levels[column][rests] = [
                counts
                for counts in all_columns(len(rowsums), many)
                if all(
                    bounds[row][column][0] <= count <= min(rests[row], bounds[row][column][1])
                    for row, count in enumerate(counts)
                )
            ]
        levels.append({left(rests, counts): [] for rests, filled in levels[column].items() for counts in filled})
    return levels


def paper_told(rowsums, columnsums, bounds):
    """The paper, each node's ways to the end walked one by one."""
    levels = nodes_told(rowsums, columnsums, bounds)

    def ends_of(level, rests):
        if level == len(columnsums):
            return [1]
        return [
            ways_of(counts) * rest
            for counts in levels[level][rests]
            for rest in ends_of(level + 1, left(rests, counts))
        ]

    told = []
    for level, nodes in enumerate(levels):
        for rests in sorted(nodes):
            found = ends_of(level, rests)
            told.append((level, rests, len(found), sum(found)))
    return told


class Counted(unittest.TestCase):
    def test_against_listing_all_tables(self):
        fits = 0
        for rowsums, columnsums, bounds in drawn_nets(30, 300):
            tables = all_tables(rowsums, columnsums, bounds)
            with self.subTest(rowsums=rowsums, columnsums=columnsums, bounds=bounds):
                if tables:
                    fits += 1
                    net = Net(rowsums, columnsums, bounds=bounds)
                    self.assertEqual(net.tables(), len(tables))
                    self.assertEqual(net.dealings(), sum(dealings_of(rows) for rows in tables))
                else:
                    with self.assertRaises(Barred):
                        Net(rowsums, columnsums, bounds=bounds)
        self.assertGreater(fits, 100)

    def test_dealings_without_bounds(self):
        chance = random.Random(31)
        for drawn in range(60):
            rowsums, columnsums = drawn_sums(chance, chance.randint(1, 4), chance.randint(1, 6), chance.randint(0, 40))
            if math.prod(many + 1 for many in rowsums) > 500:
                continue
            product = math.factorial(sum(rowsums)) // math.prod(math.factorial(many) for many in rowsums)
            self.assertEqual(Net(rowsums, columnsums).dealings(), product)

    def test_dealings_of_40_things(self):
        net = Net([20, 20], [7, 7, 7, 7, 6, 6])
        self.assertEqual(net.dealings(), math.comb(40, 20))
        self.assertEqual(Net([1, 39], [40]).tables(), 1)
        self.assertEqual(Net([1, 39], [40]).dealings(), 40)
        self.assertEqual(Net([40], [10, 30]).dealings(), 1)

    def test_by_hand(self):
        net = Net([2, 1], [1, 2])
        # 0 2 / 1 0 in 1 way, 1 1 / 0 1 in 2 ways.
        self.assertEqual((net.tables(), net.dealings()), (2, 3))
        barred = Net([2, 1], [1, 2], bounds=[[(0, 0), FREE], [FREE, FREE]])
        self.assertEqual((barred.tables(), barred.dealings()), (1, 1))
        self.assertEqual((Net([0], [0]).tables(), Net([0], [0]).dealings()), (1, 1))

    def test_sums_and_bounds_told(self):
        bounds = [[FREE, (0, 1)], [(0, 3), FREE]]
        net = Net([2, 1], [1, 2], bounds=bounds)
        self.assertEqual((net.rowsums(), net.columnsums(), net.bounds()), ([2, 1], [1, 2], bounds))
        self.assertEqual(Net([2, 1], [1, 2]).bounds(), all_free(2, 2))
        self.assertEqual(Net([2, 1], [1, 2], bounds=None).bounds(), all_free(2, 2))

    def test_at_once(self):
        began = time.perf_counter()
        for rowsums in ([4, 4, 19], [3, 4, 4, 4], [19, 21], [1, 1, 1, 37]):
            many, parts = sum(rowsums), 6
            columnsums = [many // parts + (column < many % parts) for column in range(parts)]
            net = Net(rowsums, columnsums)
            self.assertIs(net_holds(rowsums, columnsums, net.paper()), True)
        self.assertLess(time.perf_counter() - began, 20)


class Nodes(unittest.TestCase):
    def test_the_whole_paper(self):
        without_tables = 0
        for rowsums, columnsums, bounds in drawn_nets(32, 800):
            told = paper_told(rowsums, columnsums, bounds or all_free(len(rowsums), len(columnsums)))
            with self.subTest(rowsums=rowsums, columnsums=columnsums, bounds=bounds):
                if told[0][2] == 0:
                    continue
                net = Net(rowsums, columnsums, bounds=bounds)
                self.assertEqual(net.paper(), told)
                self.assertEqual(len(net), len(told))
                without_tables += any(tables == 0 for level, rests, tables, dealings in told)
        self.assertGreater(without_tables, 10)

    def test_the_paper_by_hand(self):
        # The rests (2, 0) ask for two things in the barred cell: a node without a table beyond it.
        net = Net([2, 1], [1, 2], bounds=[[FREE, (0, 1)], [FREE, FREE]])
        self.assertEqual(net.paper(), [
            (0, (2, 1), 1, 2),
            (1, (1, 1), 1, 2),
            (1, (2, 0), 0, 0),
            (2, (0, 0), 1, 1),
        ])
        self.assertEqual(len(net), 4)
        self.assertEqual(net.steps(0, (2, 1)), [(1, 0)])
        self.assertEqual(net.steps(1, (2, 0)), [])
        self.assertEqual(net.counts_at(1, (2, 0)), (0, 0))
        self.assertEqual(Net([0], [0]).paper(), [(0, (0,), 1, 1), (1, (0,), 1, 1)])

    def test_kinds(self):
        net = Net([2, 1], [1, 2])
        self.assertIsInstance(net.paper(), list)
        for row in net.paper():
            self.assertIs(type(row), tuple)
            self.assertIs(type(row[1]), tuple)
            self.assertIs(type(net.counts_at(row[0], row[1])), tuple)
            self.assertIs(type(net.steps(row[0], row[1])), list)
            self.assertTrue(all(type(counts) is tuple for counts in net.steps(row[0], row[1])))

    def test_counts_at_and_steps_of_each_node(self):
        for rowsums, columnsums, bounds in drawn_nets(33, 100):
            settled = bounds or all_free(len(rowsums), len(columnsums))
            levels = nodes_told(rowsums, columnsums, settled)
            paper = {(level, rests): (tables, dealings)
                     for level, rests, tables, dealings in paper_told(rowsums, columnsums, settled)}
            if paper[0, tuple(rowsums)][0] == 0:
                continue
            net = Net(rowsums, columnsums, bounds=bounds)
            for level, rests in paper:
                steps = [counts for counts in levels[level][rests]
                         if level < len(columnsums) and paper[level + 1, left(rests, counts)][0] > 0]
                with self.subTest(rowsums=rowsums, columnsums=columnsums, bounds=bounds, level=level, rests=rests):
                    self.assertEqual(net.counts_at(level, rests), paper[level, rests])
                    self.assertEqual(net.steps(level, rests), steps)

    def test_a_last_node(self):
        net = Net([2, 1], [1, 2])
        self.assertEqual(net.counts_at(2, (0, 0)), (1, 1))
        self.assertEqual(net.steps(2, (0, 0)), [])

    def test_what_is_no_node(self):
        net = Net([2, 1], [1, 2])
        for level, rests in (
            (0, (1, 2)), (0, (2, 0)), (0, (0, 0)), (1, (2, 1)), (1, (0, 2)), (1, (3, -1)), (2, (1, 0)), (2, (2, 1)),
            (-1, (2, 1)), (-1, (0, 0)), (-3, (2, 1)), (3, (0, 0)), (9, (0, 0)), (0, ()), (0, (2,)), (0, (2, 1, 0)),
            (2, ()), (2, (0,)), (1, (1, 1, 0)),
        ):
            with self.subTest(level=level, rests=rests):
                self.assertEqual(net.counts_at(level, rests), (0, 0))
                self.assertEqual(net.steps(level, rests), [])

    def test_rests_that_no_filling_leads_to(self):
        # Without the bound (2, 0) would be a node, and has a filling.
        net = Net([2, 1], [1, 2], bounds=[[(1, 1), FREE], [FREE, FREE]])
        self.assertEqual(net.counts_at(1, (2, 0)), (0, 0))
        self.assertEqual(net.steps(1, (2, 0)), [])


class Refused(unittest.TestCase):
    def both(self, error, rowsums, columnsums, bounds):
        with self.subTest(rowsums=rowsums, columnsums=columnsums, bounds=bounds):
            with self.assertRaises(error) as caught:
                Net(rowsums, columnsums, bounds=bounds)
            self.assertIsInstance(caught.exception, EdgeError)
            with self.assertRaises(error):
                net_holds(rowsums, columnsums, [], bounds=bounds)
            return caught.exception

    def test_sums(self):
        for rowsums, columnsums in BAD_SUMS:
            self.both(BadSums, rowsums, columnsums, None)

    def test_bounds(self):
        for bounds in ([], [[FREE]], [[FREE] * 3] * 2, [[FREE] * 2] * 3, [[FREE, FREE], [FREE]]):
            self.both(BadBounds, [2, 1], [1, 2], bounds)
        for pair in ((-1, 2), (3, 2), (0, 41), (41, 41)):
            for row, column in itertools.product(range(2), range(2)):
                bounds = free(2, 2)
                bounds[row][column] = pair
                self.both(BadBounds, [2, 1], [1, 2], bounds)

    def test_wide(self):
        self.assertEqual(WIDE, 500)
        for rowsums in ([4, 4, 19], [3, 4, 4, 4], [19, 4, 4], [9, 9, 4]):
            self.assertEqual(math.prod(many + 1 for many in rowsums), 500)
            self.assertGreater(Net(rowsums, [sum(rowsums)]).tables(), 0)
        for rowsums, wide in (
            ([6, 7, 8], 504), ([8, 7, 6], 504), ([5, 6, 11], 504), ([1, 5, 6, 5], 504), ([20, 20], 441), ([10] * 4, 14641),
            ([13, 13, 14], 2940),
        ):
            if wide > 500:
                self.assertEqual(self.both(TooWide, rowsums, [sum(rowsums)], None).wide, wide)
            else:
                self.assertEqual(Net(rowsums, [sum(rowsums)]).tables(), 1)

    def test_barred(self):
        for rowsums, columnsums, bounds in (
            ([1], [1], [[(0, 0)]]),
            ([0], [0], [[(1, 1)]]),
            ([1, 1], [1, 1], [[(0, 0), (0, 0)], [FREE, FREE]]),
            ([2, 2], [2, 2], [[(0, 0), FREE], [FREE, (1, 1)]]),
        ):
            with self.assertRaises(Barred) as caught:
                Net(rowsums, columnsums, bounds=bounds)
            need, place = room(rowsums, columnsums, caught.exception.over, caught.exception.into, bounds=bounds)
            self.assertGreater(need, place)

    def test_order(self):
        shape, barring = [[FREE]], [[(0, 0)] * 2] * 3
        self.both(BadSums, [6, 7, 8], [10, 10], shape)
        self.both(BadSums, [6, 7, 8], [10, 10], barring)
        self.both(BadBounds, [6, 7, 8], [11, 10], shape)
        self.assertEqual(self.both(TooWide, [6, 7, 8], [11, 10], barring).wide, 504)
        with self.assertRaises(Barred):
            Net([6, 7, 7], [10, 10], bounds=barring)


class Holds(unittest.TestCase):
    def papers(self):
        for rowsums, columnsums, bounds in drawn_nets(34, 60):
            yield rowsums, columnsums, bounds, paper_told(
                rowsums, columnsums, bounds or all_free(len(rowsums), len(columnsums)))

    def test_the_paper(self):
        none_fits = 0
        for rowsums, columnsums, bounds, paper in self.papers():
            with self.subTest(rowsums=rowsums, columnsums=columnsums, bounds=bounds):
                self.assertIs(net_holds(rowsums, columnsums, paper, bounds=bounds), True)
                none_fits += paper[0][2:] == (0, 0)
        self.assertGreater(none_fits, 5)

    def test_another_paper(self):
        for rowsums, columnsums, bounds, paper in self.papers():
            for wrong in self.wrong(paper):
                with self.subTest(rowsums=rowsums, columnsums=columnsums, bounds=bounds, wrong=wrong):
                    self.assertIs(net_holds(rowsums, columnsums, wrong, bounds=bounds), False)

    def wrong(self, paper):
        yield []
        yield paper + [(len(paper), (0,), 1, 1)]
        yield paper + paper
        for at, (level, rests, tables, dealings) in enumerate(paper):
            ahead, behind = paper[:at], paper[at + 1:]
            yield ahead + behind
            yield ahead + [paper[at], paper[at]] + behind
            for other in (
                (level + 1, rests, tables, dealings), (level - 1, rests, tables, dealings),
                (level, rests, tables + 1, dealings), (level, rests, tables - 1, dealings),
                (level, rests, tables, dealings + 1), (level, rests, tables, dealings - 1),
                (level, rests + (0,), tables, dealings), (level, rests[:-1], tables, dealings),
            ):
                yield ahead + [other] + behind
            for row in range(len(rests)):
                changed = rests[:row] + (rests[row] + 1,) + rests[row + 1:]
                yield ahead + [(level, changed, tables, dealings)] + behind
            if behind:
                yield ahead + [behind[0], paper[at]] + behind[1:]

    def test_where_no_table_fits(self):
        bounds = [[FREE, (0, 0)], [FREE, (0, 1)]]
        paper = [(0, (2, 1), 0, 0), (1, (1, 1), 0, 0), (1, (2, 0), 0, 0)]
        self.assertIs(net_holds([2, 1], [1, 2], paper, bounds=bounds), True)
        self.assertIs(net_holds([2, 1], [1, 2], [(0, (2, 1), 1, 1)] + paper[1:], bounds=bounds), False)
        self.assertIs(net_holds([2, 1], [1, 2], paper[:2], bounds=bounds), False)
        self.assertIs(net_holds([2, 1], [1, 2], [paper[0], paper[2], paper[1]], bounds=bounds), False)
        self.assertIs(net_holds([1], [1], [(0, (1,), 0, 0)], bounds=[[(0, 0)]]), True)
        self.assertIs(net_holds([1], [1], [(0, (1,), 0, 0), (1, (0,), 1, 1)], bounds=[[(0, 0)]]), False)

    def test_the_paper_of_other_sums_or_bounds(self):
        paper = Net([2, 1], [1, 2]).paper()
        self.assertIs(net_holds([2, 1], [1, 2], paper), True)
        self.assertIs(net_holds([2, 1], [1, 2], paper, bounds=None), True)
        self.assertIs(net_holds([2, 1], [1, 2], paper, bounds=free(2, 2)), True)
        self.assertIs(net_holds([2, 1], [2, 1], paper), False)
        self.assertIs(net_holds([1, 2], [1, 2], paper), False)
        self.assertIs(net_holds([2, 1], [1, 2], paper, bounds=[[FREE, (0, 1)], [FREE, FREE]]), False)

    def test_what_is_handed_in_stays(self):
        rowsums, columnsums, bounds = [2, 1], [1, 2], [[FREE, (0, 1)], [FREE, FREE]]
        paper = Net(rowsums, columnsums, bounds=bounds).paper()
        stayed = copy.deepcopy((rowsums, columnsums, bounds, paper))
        net_holds(rowsums, columnsums, paper, bounds=bounds)
        self.assertEqual((rowsums, columnsums, bounds, paper), stayed)


class Equal(unittest.TestCase):
    def test_bounds_left_out_none_and_all_free(self):
        nets = [Net([2, 1], [1, 2]), Net([2, 1], [1, 2], bounds=None), Net([2, 1], [1, 2], bounds=free(2, 2))]
        for one, other in itertools.product(nets, repeat=2):
            self.assertTrue(one == other)
            self.assertFalse(one != other)

    def test_unlike_sums_or_bounds(self):
        net = Net([2, 1], [1, 2])
        for other in (
            Net([1, 2], [1, 2]), Net([2, 1], [2, 1]), Net([2, 1], [1, 1, 1]), Net([2, 1, 0], [1, 2]), Net([2, 2], [2, 2]),
            Net([2, 1], [1, 2], bounds=[[FREE, FREE], [FREE, (0, 39)]]),
            Net([2, 1], [1, 2], bounds=[[(1, 40), FREE], [FREE, FREE]]),
        ):
            self.assertFalse(net == other)
            self.assertTrue(net != other)

    def test_what_is_no_net(self):
        net = Net([2, 1], [1, 2])
        for other in (None, 7, "net", [2, 1], ([2, 1], [1, 2]), net.paper(), net.bounds()):
            self.assertFalse(net == other)
            self.assertTrue(net != other)
            self.assertIs(Net.__eq__(net, other), False)


class Kept(unittest.TestCase):
    def all_asked(self, net):
        asked = [net.rowsums(), net.columnsums(), net.bounds(), net.tables(), net.dealings(), net.paper(), len(net)]
        for level, rests, tables, dealings in net.paper():
            asked += [net.counts_at(level, rests), net.steps(level, rests)]
        return asked

    def test_lists_handed_in_and_told_changed(self):
        rowsums, columnsums, bounds = [3, 2], [2, 1, 2], [[FREE, FREE, (0, 1)], [FREE, FREE, FREE]]
        stayed = copy.deepcopy((rowsums, columnsums, bounds))
        net = Net(rowsums, columnsums, bounds=bounds)
        same = Net(*stayed[:2], bounds=stayed[2])
        self.assertEqual((rowsums, columnsums, bounds), stayed)
        ahead = copy.deepcopy(self.all_asked(net))
        rowsums[0] = 9
        columnsums.append(9)
        bounds[0][0] = (0, 0)
        bounds.append([])
        self.assertEqual(self.all_asked(net), ahead)
        for told in (net.rowsums(), net.columnsums(), net.bounds(), net.bounds()[0], net.paper(), net.steps(0, (3, 2))):
            told[0] = 9
            told.append(9)
            self.assertEqual(self.all_asked(net), ahead)
        self.assertTrue(net == same)
        left_free = Net([3, 2], [2, 1, 2])
        left_free.bounds()[0][0] = (0, 0)
        self.assertEqual(left_free.bounds(), free(2, 3))

    def test_each_table_counts_as_often_as_it_has_dealings(self):
        for rows in all_tables([2, 2], [1, 2, 1]):
            bounds = [[(count, count) for count in row] for row in rows]
            net = Net([2, 2], [1, 2, 1], bounds=bounds)
            product = math.prod(ways_of(column) for column in columns_of(rows))
            self.assertEqual((net.tables(), net.dealings()), (1, product))


if __name__ == "__main__":
    unittest.main()
