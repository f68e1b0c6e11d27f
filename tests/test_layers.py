import fractions
import itertools
import math
import random
import unittest

from edgetally.errors import BadCell, BadLayers, BadNumber, EdgeError, NoTable
from edgetally.layers import gathering, odds_share, parts_share
from edgetally.net import Net
from listing import dealings_of, fraction, listed_nets, spread_of

# The first cell of these has 0 or 1 in 1 and 2 dealings, and 0 to 3 in 1, 9, 9 and 1.
SMALL, EVEN = Net([2, 1], [1, 2]), Net([3, 3], [3, 3])


class Layers:
    """Nets, and all tables of each."""

    def __init__(self, nets, tables, place):
        self.nets, self.tables, self.place = nets, tables, place

    def __repr__(self):
        return f"{[net.paper() for net in self.nets]} at {self.place}"

    def dealt(self):
        """Each choice of one table a layer: the counts at the place, and the dealings of all."""
        row, column = self.place
        for chosen in itertools.product(*self.tables):
            yield [rows[row][column] for rows in chosen], math.prod(dealings_of(rows) for rows in chosen)

    def gathering(self):
        told = {}
        for counts, dealings in self.dealt():
            told[sum(counts)] = told.get(sum(counts), 0) + dealings
        return sorted(told.items())

    def odds_share(self, seen, odds, up):
        greatest = max(many for many, dealings in self.gathering())
        weights = {
            many: dealings * odds[0] ** many * odds[1] ** (greatest - many) for many, dealings in self.gathering()
        }
        taken = [weight for many, weight in weights.items() if (many >= seen if up else many <= seen)]
        return fraction(sum(taken), sum(weights.values()))

    def parts_share(self, parts):
        row, column = self.place
        found = [dict(spread_of("most", tables, self.place)) for tables in self.tables]
        weights = {
            counts: math.prod(layer[count] for layer, count in zip(found, counts))
            for counts in itertools.product(*found)
            if sum(counts) == sum(parts)
        }
        taken = [weight for weight in weights.values() if weight <= weights[tuple(parts)]]
        return fraction(sum(taken), sum(weights.values()))


def drawn_layers(seed, many):
    """Layers of one to four small nets, one of them now and then twice, at a place that all have."""
    chance = random.Random(seed)
    drawn = [
        (Net(rowsums, columnsums, bounds=bounds), tables)
        for rowsums, columnsums, bounds, tables in listed_nets(seed, 120)
        if len(tables) <= 12 and sum(rowsums)
    ]
    for made in range(many):
        chosen = [chance.choice(drawn) for layer in range(chance.choice([1, 2, 2, 3, 3, 4]))]
        if made % 3 == 0 and len(chosen) < 4:
            chosen.append(chosen[0])
        nets, tables = [net for net, found in chosen], [found for net, found in chosen]
        if math.prod(len(found) for found in tables) <= 2000:
            row = chance.randrange(min(len(net.rowsums()) for net in nets))
            column = chance.randrange(min(len(net.columnsums()) for net in nets))
            yield Layers(nets, tables, (row, column))


class Gathering(unittest.TestCase):
    def test_against_going_through_all_tables(self):
        several = 0
        for layers in drawn_layers(120, 150):
            with self.subTest(layers=layers):
                told = gathering(layers.nets, place=layers.place)
                self.assertEqual(told, layers.gathering())
                self.assertEqual(sum(dealings for many, dealings in told),
                                 math.prod(net.dealings() for net in layers.nets))
                several += len(told) > 3
        self.assertGreater(several, 20)

    def test_by_hand(self):
        self.assertEqual(gathering([SMALL]), [(0, 1), (1, 2)])
        self.assertEqual(gathering([SMALL, SMALL]), [(0, 1), (1, 4), (2, 4)])
        self.assertEqual(gathering([SMALL, EVEN]), [(0, 1), (1, 11), (2, 27), (3, 19), (4, 2)])
        self.assertEqual(gathering([SMALL], place=(0, 1)), [(1, 2), (2, 1)])
        self.assertEqual(gathering([Net([0], [0])] * 4), [(0, 1)])

    def test_kinds_of_what_is_told(self):
        told = gathering([SMALL, EVEN])
        self.assertIs(type(told), list)
        self.assertTrue(all(type(pair) is tuple for pair in told))

    def test_place_left_out_is_the_first_cell(self):
        for layers in drawn_layers(121, 20):
            self.assertEqual(gathering(layers.nets), gathering(layers.nets, place=(0, 0)))

    def test_forty_things_together(self):
        nets = [Net([5, 5], [5, 5])] * 4
        self.assertEqual(sum(dealings for many, dealings in gathering(nets)), math.comb(10, 5) ** 4)
        self.assertEqual([many for many, dealings in gathering(nets)], list(range(21)))

    def test_what_is_handed_in_stays_and_no_told_list_is_kept(self):
        nets = [SMALL, EVEN, SMALL]
        told = gathering(nets)
        again = list(told)
        told[0] = 9
        told.pop()
        self.assertEqual(gathering(nets), again)
        self.assertEqual(len(nets), 3)
        self.assertTrue(nets[0] is SMALL and nets[1] is EVEN and nets[2] is SMALL)


class OddsShare(unittest.TestCase):
    def test_against_going_through_all_tables(self):
        chance = random.Random(122)
        midst = 0
        for layers in drawn_layers(122, 100):
            sums = [many for many, dealings in layers.gathering()]
            for seen in (chance.choice(sums), sums[0], sums[-1], sums[0] - 1, sums[-1] + 1, 10 ** 9, -10 ** 9):
                odds = chance.choice([(1, 1), (1, 2), (2, 1), (3, 7), (1000, 1), (1, 1000), (1000, 1000), (4, 6)])
                for up in (True, False):
                    with self.subTest(layers=layers, seen=seen, odds=odds, up=up):
                        told = odds_share(layers.nets, seen, odds=odds, place=layers.place, up=up)
                        self.assertEqual(told, layers.odds_share(seen, odds, up))
                        self.assertIs(type(told), tuple)
                        midst += told not in ((0, 1), (1, 1))
        self.assertGreater(midst, 100)

    def test_by_hand(self):
        # The sums 0, 1 and 2 come in 1, 4 and 4 dealings; under odds of 3 to 2 they count 4, 24 and 36.
        nets = [SMALL, SMALL]
        self.assertEqual(odds_share(nets, 2, odds=(3, 2)), (9, 16))
        self.assertEqual(odds_share(nets, 1, odds=(3, 2), up=False), (7, 16))
        self.assertEqual(odds_share(nets, 1, odds=(3, 2)), (15, 16))
        self.assertEqual(odds_share(nets, 3, odds=(3, 2)), (0, 1))
        self.assertEqual(odds_share(nets, -1, odds=(3, 2)), (1, 1))

    def test_odds_place_and_up_left_out(self):
        for layers in drawn_layers(123, 30):
            for seen in (0, 1, 2):
                self.assertEqual(
                    odds_share(layers.nets, seen),
                    odds_share(layers.nets, seen, odds=(1, 1), place=(0, 0), up=True))
                self.assertEqual(
                    odds_share(layers.nets, seen, odds=(2, 5), place=layers.place),
                    layers.odds_share(seen, (2, 5), True))
                self.assertEqual(
                    odds_share(layers.nets, seen, place=layers.place, up=False),
                    layers.odds_share(seen, (1, 1), False))

    def test_odds_are_no_fraction_of_their_own(self):
        self.assertEqual(odds_share([EVEN], 2, odds=(6, 4)), odds_share([EVEN], 2, odds=(3, 2)))

    def test_odds_out_of_their_bounds(self):
        for odds in ((0, 1), (1, 0), (1001, 1), (1, 1001), (-1, 1), (1, -1), (0, 0), (10 ** 9, 1)):
            with self.assertRaises(BadNumber) as caught:
                odds_share([SMALL], 1, odds=odds)
            self.assertIsInstance(caught.exception, EdgeError)
        for odds in ((1, 1), (1000, 1), (1, 1000), (1000, 1000)):
            self.assertEqual(odds_share([SMALL], 0, odds=odds), (1, 1))


class PartsShare(unittest.TestCase):
    def test_against_going_through_all_tables(self):
        midst = 0
        for layers in drawn_layers(124, 100):
            found = [sorted(dict(spread_of("most", tables, layers.place))) for tables in layers.tables]
            for parts in itertools.islice(itertools.product(*found), 40):
                with self.subTest(layers=layers, parts=parts):
                    told = parts_share(layers.nets, list(parts), place=layers.place)
                    self.assertEqual(told, layers.parts_share(parts))
                    self.assertIs(type(told), tuple)
                    midst += told != (1, 1)
        self.assertGreater(midst, 50)

    def test_by_hand(self):
        # With a sum of 1: (0, 1) comes in 1 * 9 dealings, (1, 0) in 2 * 1.
        self.assertEqual(parts_share([SMALL, EVEN], [1, 0]), (2, 11))
        self.assertEqual(parts_share([SMALL, EVEN], [0, 1]), (1, 1))
        self.assertEqual(parts_share([SMALL, SMALL], [0, 1]), (1, 1))
        self.assertEqual(parts_share([SMALL], [1]), (1, 1))

    def test_place_left_out_is_the_first_cell(self):
        self.assertEqual(parts_share([SMALL, EVEN], [1, 0]), parts_share([SMALL, EVEN], [1, 0], place=(0, 0)))
        self.assertEqual(parts_share([SMALL, EVEN], [2, 0], place=(0, 1)), (1, 19))

    def test_all_lists_of_a_sum_have_one_share_in_all(self):
        nets = [Net([5, 5], [5, 5])] * 4
        shares = {
            parts: fractions.Fraction(*parts_share(nets, list(parts)))
            for parts in ((0, 0, 0, 1), (1, 0, 0, 0), (0, 0, 0, 0), (2, 2, 3, 3), (5, 5, 0, 0))
        }
        self.assertEqual(shares[0, 0, 0, 1], shares[1, 0, 0, 0])
        self.assertEqual(shares[0, 0, 0, 0], 1)
        self.assertEqual(shares[2, 2, 3, 3], 1)
        self.assertLess(shares[5, 5, 0, 0], fractions.Fraction(1, 1000))

    def test_parts_of_another_length(self):
        for parts in ([], [1], [1, 0, 0], [9], [-1, 0, 0, 0]):
            with self.assertRaises(BadNumber) as caught:
                parts_share([SMALL, EVEN], parts)
            self.assertIsInstance(caught.exception, EdgeError)

    def test_a_count_that_no_table_of_its_layer_has(self):
        for parts in ([2, 0], [-1, 1], [0, 4], [0, -1], [9, 9], [2, -1]):
            with self.assertRaises(NoTable) as caught:
                parts_share([SMALL, EVEN], parts)
            self.assertIsInstance(caught.exception, EdgeError)
        barred = Net([2, 1], [1, 2], bounds=[[(0, 0), (0, 40)], [(0, 40), (0, 40)]])
        with self.assertRaises(NoTable):
            parts_share([barred], [1])

    def test_the_parts_handed_in_stay(self):
        parts, nets = [1, 0], [SMALL, EVEN]
        self.assertEqual(parts_share(nets, parts), parts_share(nets, parts))
        self.assertEqual(parts, [1, 0])
        self.assertEqual(len(nets), 2)
        self.assertTrue(nets[0] is SMALL and nets[1] is EVEN)


def each_way(nets, place=(0, 0), odds=(1, 1), parts=None):
    parts = [0] * len(nets) if parts is None else parts
    return (
        lambda: gathering(nets, place=place),
        lambda: odds_share(nets, 0, odds=odds, place=place),
        lambda: parts_share(nets, parts, place=place),
    )


class Refused(unittest.TestCase):
    NO_LAYERS = ([], [SMALL] * 5, [Net([20], [20]), Net([20, 1], [21])], [Net([20, 20], [40]), Net([1], [1])])

    def test_no_layers(self):
        for nets in self.NO_LAYERS:
            for asked in each_way(nets):
                with self.assertRaises(BadLayers) as caught:
                    asked()
                self.assertIsInstance(caught.exception, EdgeError)

    def test_four_layers_and_forty_things_are_not_too_many(self):
        for nets in ([SMALL] * 4, [Net([20], [20]), Net([19, 1], [20])], [Net([20, 20], [40]), Net([0], [0])]):
            self.assertGreater(len(gathering(nets)), 0)

    def test_a_place_that_one_net_has_not(self):
        wider = Net([1, 1, 1], [1, 1, 1])
        for nets in ([SMALL, wider], [wider, SMALL], [wider, wider, SMALL]):
            for place in ((2, 0), (0, 2), (2, 2), (-1, 0), (0, -1), (3, 0)):
                for asked in each_way(nets, place=place):
                    with self.assertRaises(BadCell):
                        asked()
        self.assertEqual(gathering([wider, wider], place=(2, 2)), [(0, 16), (1, 16), (2, 4)])

    def test_their_order(self):
        far = (9, 9)
        for nets in self.NO_LAYERS:
            for asked in each_way(nets, place=far, odds=(0, 0), parts=[9] * 7):
                with self.assertRaises(BadLayers):
                    asked()
        for asked in each_way([SMALL, EVEN], place=far, odds=(0, 0), parts=[9] * 7):
            with self.assertRaises(BadCell):
                asked()
        with self.assertRaises(BadCell):
            parts_share([SMALL, EVEN], [9, 9], place=far)
        with self.assertRaises(BadNumber):
            parts_share([SMALL, EVEN], [9, 9, 9])


if __name__ == "__main__":
    unittest.main()
