import copy
import fractions
import math
import time
import unittest

from edgetally.bounds import FREE
from edgetally.errors import BadCell, BadNumber, BadRule, BadSums, EdgeError
from edgetally.looks import Look
from edgetally.measures import KINDS, Measure
from edgetally.net import Net
from edgetally.shares import (
    LEVEL,
    RULES,
    SIDES,
    share,
    share_holds,
    spread,
    threshold,
    two_sided,
    weighing,
)
from listing import dealings_of, fraction, listed_nets, spread_of, stranger, table_value
from weighed import cases

OTHER_SUMS = (
    ([1, 2], [1, 2]), ([2, 1], [2, 1]), ([2, 1, 0], [1, 2]), ([2, 1], [1, 2, 0]), ([3], [3]), ([2, 2], [2, 2]),
)
# The tables [[0, 2], [1, 0]] and [[1, 1], [0, 1]], of one dealing and of two.
SMALL = ([2, 1], [1, 2])


def measured_nets(seed, many):
    """Small nets with a measure of each kind, all their tables, the kind and the place."""
    for drawn, (rowsums, columnsums, bounds, tables) in enumerate(listed_nets(seed, many)):
        net = Net(rowsums, columnsums, bounds=bounds)
        for kind in KINDS:
            place = (drawn % len(rowsums), drawn % len(columnsums))
            yield net, Measure(kind, rowsums, columnsums, place=place), tables, kind, place


def other_measures():
    for rowsums, columnsums in OTHER_SUMS:
        for kind in KINDS:
            yield Measure(kind, rowsums, columnsums)


def lowest_terms(told):
    top, under = told
    return type(told) is tuple and type(top) is int and under > 0 and math.gcd(top, under) == 1


class Spread(unittest.TestCase):
    def test_against_going_through_all_tables(self):
        several = 0
        for net, measure, tables, kind, place in measured_nets(80, 200):
            with self.subTest(paper=net.paper(), kind=kind, place=place):
                told = spread(net, measure)
                self.assertEqual(told, spread_of(kind, tables, place))
                self.assertEqual(sum(dealings for value, dealings in told), net.dealings())
                several += len(told) > 2
        self.assertGreater(several, 100)

    def test_by_hand(self):
        net = Net(*SMALL)
        self.assertEqual(spread(net, Measure("rare", *SMALL)), [(1, 1), (2, 2)])
        self.assertEqual(spread(net, Measure("most", *SMALL, place=(0, 1))), [(1, 2), (2, 1)])
        barred = Net(*SMALL, bounds=[[(0, 0), FREE], [FREE, FREE]])
        self.assertEqual(spread(barred, Measure("least", *SMALL)), [(0, 1)])

    def test_tables_of_one_value_are_told_once(self):
        net = Net([1, 1], [1, 1])
        self.assertEqual(spread(net, Measure("rare", [1, 1], [1, 1])), [(1, 2)])

    def test_a_net_of_nothing(self):
        net = Net([0, 0], [0])
        for kind in KINDS:
            measure = Measure(kind, [0, 0], [0])
            self.assertEqual(spread(net, measure), [(measure.begun(), 1)])

    def test_kinds_of_what_is_told(self):
        for net, measure, tables, kind, place in measured_nets(81, 6):
            told = spread(net, measure)
            self.assertIs(type(told), list)
            self.assertTrue(all(type(pair) is tuple and len(pair) == 2 for pair in told))

    def test_a_told_list_changed_and_asked_again(self):
        for net, measure, tables, kind, place in measured_nets(82, 8):
            told = spread(net, measure)
            again = list(told)
            told[0] = 9
            told.append(9)
            self.assertEqual(spread(net, measure), again)

    def test_forty_things_in_two_rows_at_once(self):
        begun = time.monotonic()
        for rowsums, columnsums in (
            ([20, 20], [20, 20]), ([20, 20], [7, 7, 7, 7, 6, 6]), ([39, 1], [40]), ([11, 29], [8, 8, 8, 8, 8]),
        ):
            net = Net(rowsums, columnsums)
            for kind in KINDS:
                told = spread(net, Measure(kind, rowsums, columnsums))
                self.assertEqual(sum(dealings for value, dealings in told), math.comb(40, rowsums[0]))
                self.assertEqual([value for value, dealings in told], sorted({value for value, dealings in told}))
        self.assertLess(time.monotonic() - begun, 20)

    def test_most_of_two_rows_by_two_columns(self):
        told = spread(Net([20, 20], [20, 20]), Measure("most", [20, 20], [20, 20]))
        self.assertEqual(told, [(count, math.comb(20, count) ** 2) for count in range(21)])

    def test_a_measure_of_other_sums(self):
        net = Net(*SMALL)
        for measure in other_measures():
            with self.assertRaises(BadSums) as caught:
                spread(net, measure)
            self.assertIsInstance(caught.exception, EdgeError)


def side_share(kind, tables, place, seen, side):
    """A share of each side, by going through all tables."""
    beyond = same = under = 0
    for rows in tables:
        value = table_value(kind, rows, place)
        beyond += dealings_of(rows) if stranger(kind, value, seen) else 0
        same += dealings_of(rows) if value == seen else 0
        under += dealings_of(rows) if value == seen or not stranger(kind, value, seen) else 0
    twice = {"beyond": 2 * beyond, "same": 2 * same, "under": 2 * under, "mid": 2 * beyond - same}[side]
    return fraction(twice, 2 * sum(dealings_of(rows) for rows in tables))


class Shares(unittest.TestCase):
    def test_the_sides(self):
        self.assertEqual(SIDES, ("beyond", "same", "under", "mid"))

    def test_each_side_against_going_through_all_tables(self):
        midst = 0
        for net, measure, tables, kind, place in measured_nets(83, 70):
            values = [value for value, dealings in spread_of(kind, tables, place)]
            one = values[len(values) // 2]
            for seen in (one, one + 1, one - 1, values[0], values[-1], 10 ** 9, -10 ** 9):
                for side in SIDES:
                    with self.subTest(paper=net.paper(), kind=kind, place=place, seen=seen, side=side):
                        told = share(net, measure, seen, side=side)
                        self.assertEqual(told, side_share(kind, tables, place, seen, side))
                        self.assertTrue(lowest_terms(told))
                        midst += told not in ((0, 1), (1, 1))
        self.assertGreater(midst, 500)

    def test_by_hand(self):
        net, measure = Net(*SMALL), Measure("rare", *SMALL)
        self.assertEqual([share(net, measure, 1, side=side) for side in SIDES], [(1, 3), (1, 3), (1, 1), (1, 6)])
        self.assertEqual([share(net, measure, 2, side=side) for side in SIDES], [(1, 1), (2, 3), (2, 3), (2, 3)])
        most = Measure("most", *SMALL)
        self.assertEqual([share(net, most, 1, side=side) for side in SIDES], [(2, 3), (2, 3), (1, 1), (1, 3)])

    def test_nought_is_nought_over_one(self):
        net, measure = Net(*SMALL), Measure("most", *SMALL)
        self.assertEqual([share(net, measure, 10 ** 9, side=side) for side in SIDES], [(0, 1), (0, 1), (1, 1), (0, 1)])
        self.assertEqual([share(net, measure, -10 ** 9, side=side) for side in SIDES], [(1, 1), (0, 1), (0, 1), (1, 1)])

    def test_side_left_out_is_beyond(self):
        for net, measure, tables, kind, place in measured_nets(84, 20):
            for seen in (table_value(kind, tables[0], place), 1):
                self.assertEqual(share(net, measure, seen), share(net, measure, seen, side="beyond"))
                self.assertEqual(share(net, measure, seen), side_share(kind, tables, place, seen, "beyond"))

    def test_another_side(self):
        net, measure = Net(*SMALL), Measure("rare", *SMALL)
        for side in ("", "over", "Beyond", "beyond ", "beyon", "mean", "b"):
            with self.assertRaises(BadRule) as caught:
                share(net, measure, 1, side=side)
            self.assertIsInstance(caught.exception, EdgeError)

    def test_other_sums_ahead_of_another_side(self):
        net = Net(*SMALL)
        for measure in other_measures():
            for side in SIDES + ("over",):
                with self.assertRaises(BadSums):
                    share(net, measure, 1, side=side)


class Weighing(unittest.TestCase):
    def test_the_whole_list(self):
        rows = 0
        for case in cases(85, 100):
            with self.subTest(case=case):
                told = weighing(case.net, case.measure, case.seen)
                self.assertEqual(told, case.weighing())
                self.assertIs(type(told), list)
                self.assertTrue(all(type(row) is tuple and len(row) == 5 for row in told))
                rows += len(told)
        self.assertGreater(rows, 1000)

    def test_by_hand(self):
        self.assertEqual(weighing(Net(*SMALL), Measure("rare", *SMALL), 1), [
            (0, (2, 1), 1, 1, "open"), (1, (1, 1), 1, 1, "out"), (1, (2, 0), 1, 1, "in"),
        ])

    def test_the_rows_that_are_in_make_the_top(self):
        for case in cases(86, 60):
            with self.subTest(case=case):
                top = sum(
                    dealings * case.net.counts_at(level, rests)[1]
                    for level, rests, gathered, dealings, verdict in weighing(case.net, case.measure, case.seen)
                    if verdict == "in"
                )
                self.assertEqual(fraction(top, case.net.dealings()), case.share())
                self.assertEqual(share(case.net, case.measure, case.seen), case.share())

    def test_the_rows_of_a_look_gone_to_its_end(self):
        for case in cases(87, 40):
            with self.subTest(case=case):
                look = Look(case.net, case.measure, case.seen)
                look.step(many=10 ** 6)
                self.assertEqual(look.told_rows(), weighing(case.net, case.measure, case.seen))
                self.assertEqual(look.between(), (case.share(), case.share()))

    def test_a_told_list_changed_and_asked_again(self):
        for case in cases(88, 10):
            told = weighing(case.net, case.measure, case.seen)
            told[0] = 9
            told.append(9)
            self.assertEqual(weighing(case.net, case.measure, case.seen), case.weighing())

    def test_a_measure_of_other_sums(self):
        net = Net(*SMALL)
        for measure in other_measures():
            with self.assertRaises(BadSums):
                weighing(net, measure, 1)


class ShareHolds(unittest.TestCase):
    def test_just_that_list(self):
        for case in cases(89, 50):
            with self.subTest(case=case):
                told = case.weighing()
                stayed = copy.deepcopy(told)
                self.assertIs(share_holds(case.net, case.measure, case.seen, told), True)
                self.assertEqual(told, stayed)

    def test_another_list(self):
        for case in cases(90, 10):
            for wrong in self.wrong(case.weighing()):
                with self.subTest(case=case, wrong=wrong):
                    stayed = copy.deepcopy(wrong)
                    self.assertIs(share_holds(case.net, case.measure, case.seen, wrong), False)
                    self.assertEqual(wrong, stayed)

    def wrong(self, told):
        yield []
        yield told + told
        for at, row in enumerate(told):
            ahead, behind = told[:at], told[at + 1:]
            yield ahead + behind
            yield ahead + [row, row] + behind
            for place in (0, 2, 3):
                for change in (1, -1):
                    yield ahead + [row[:place] + (row[place] + change,) + row[place + 1:]] + behind
            for across in range(len(row[1])):
                rests = row[1][:across] + (row[1][across] + 1,) + row[1][across + 1:]
                yield ahead + [(row[0], rests) + row[2:]] + behind
            for verdict in ("in", "out", "open", ""):
                if verdict != row[4]:
                    yield ahead + [row[:4] + (verdict,)] + behind
            if behind:
                yield ahead + [behind[0], row] + behind[1:]

    def test_the_weighing_of_another_value(self):
        net, measure = Net(*SMALL), Measure("rare", *SMALL)
        told = weighing(net, measure, 1)
        self.assertIs(share_holds(net, measure, 1, told), True)
        for seen in (0, 2, 3):
            self.assertIs(share_holds(net, measure, seen, told), False)

    def test_a_measure_of_other_sums(self):
        net = Net(*SMALL)
        for measure in other_measures():
            for rows in ([], [(0, (2, 1), 1, 1, "in")], [()]):
                with self.assertRaises(BadSums):
                    share_holds(net, measure, 1, rows)


def ruled_share(tables, place, seen, rule):
    """A share by a rule for both sides, by going through all tables."""
    across, down = place
    counts = [(rows[across][down], dealings_of(rows)) for rows in tables]
    many = sum(dealings for count, dealings in counts)
    if rule == "double":
        up = fractions.Fraction(sum(dealings for count, dealings in counts if count >= seen), many)
        down = fractions.Fraction(sum(dealings for count, dealings in counts if count <= seen), many)
        return fraction(min(2 * min(up, down), 1), 1)
    if rule == "mean":
        mean = fractions.Fraction(sum(count * dealings for count, dealings in counts), many)
        taken = [dealings for count, dealings in counts if abs(count - mean) >= abs(seen - mean)]
        return fraction(sum(taken), many)
    comes = {count: sum(dealings for other, dealings in counts if other == count) for count, dealings in counts}
    return fraction(sum(dealings for dealings in comes.values() if dealings <= comes.get(seen, 0)), many)


class TwoSided(unittest.TestCase):
    def test_the_rules(self):
        self.assertEqual(RULES, ("rare", "double", "mean"))

    def test_each_rule_against_going_through_all_tables(self):
        unseen = 0
        for rowsums, columnsums, bounds, tables in listed_nets(91, 90):
            net = Net(rowsums, columnsums, bounds=bounds)
            for place in {(0, 0), (len(rowsums) - 1, len(columnsums) // 2)}:
                come = {rows[place[0]][place[1]] for rows in tables}
                for seen in list(range(-1, max(come) + 3)) + [10 ** 9, -10 ** 9]:
                    unseen += 0 <= seen < min(come)
                    for rule in RULES:
                        with self.subTest(paper=net.paper(), place=place, seen=seen, rule=rule):
                            told = two_sided(net, seen, place=place, rule=rule)
                            self.assertEqual(told, ruled_share(tables, place, seen, rule))
                            self.assertTrue(lowest_terms(told))
                            self.assertTrue(0 <= fractions.Fraction(*told) <= 1)
        self.assertGreater(unseen, 0)

    def test_by_hand(self):
        # The counts 0 to 3 in the first cell come in 1, 9, 9 and 1 dealings.
        net = Net([3, 3], [3, 3])
        self.assertEqual([two_sided(net, seen, rule="rare") for seen in range(-1, 5)],
                         [(0, 1), (1, 10), (1, 1), (1, 1), (1, 10), (0, 1)])
        self.assertEqual([two_sided(net, seen, rule="double") for seen in range(-1, 5)],
                         [(0, 1), (1, 10), (1, 1), (1, 1), (1, 10), (0, 1)])
        self.assertEqual([two_sided(net, seen, rule="mean") for seen in range(-1, 5)],
                         [(0, 1), (1, 10), (1, 1), (1, 1), (1, 10), (0, 1)])

    def test_the_rules_part(self):
        # The counts 0, 1 and 2 in the first cell come in 6, 8 and 1 dealings.
        net = Net([2, 4], [2, 4])
        self.assertEqual(spread(net, Measure("most", [2, 4], [2, 4])), [(0, 6), (1, 8), (2, 1)])
        self.assertEqual([two_sided(net, seen, rule="rare") for seen in range(3)], [(7, 15), (1, 1), (1, 15)])
        self.assertEqual([two_sided(net, seen, rule="double") for seen in range(3)], [(4, 5), (1, 1), (2, 15)])
        self.assertEqual([two_sided(net, seen, rule="mean") for seen in range(3)], [(7, 15), (1, 1), (1, 15)])

    def test_double_is_at_most_one(self):
        net = Net([0, 2], [1, 1])
        self.assertEqual(two_sided(net, 0, rule="double"), (1, 1))
        self.assertEqual(two_sided(net, 1, rule="double"), (0, 1))

    def test_place_and_rule_left_out(self):
        for rowsums, columnsums, bounds, tables in listed_nets(92, 40):
            net = Net(rowsums, columnsums, bounds=bounds)
            last = (len(rowsums) - 1, len(columnsums) - 1)
            for seen in range(-1, 4):
                self.assertEqual(two_sided(net, seen), ruled_share(tables, (0, 0), seen, "rare"))
                self.assertEqual(two_sided(net, seen, rule="mean"), ruled_share(tables, (0, 0), seen, "mean"))
                self.assertEqual(two_sided(net, seen, place=last), ruled_share(tables, last, seen, "rare"))

    def test_a_rule_that_is_none_ahead_of_a_cell_that_is_not_there(self):
        net = Net(*SMALL)
        for rule in ("", "Rare", "square", "most", "beyond", "means"):
            for place in ((0, 0), (2, 0), (-1, 0), (0, 2)):
                with self.assertRaises(BadRule):
                    two_sided(net, 1, place=place, rule=rule)

    def test_a_cell_that_is_not_there(self):
        net = Net(*SMALL)
        for place in ((2, 0), (-1, 0), (0, 2), (0, -1), (-1, -1), (9, 9)):
            for rule in RULES:
                with self.assertRaises(BadCell):
                    two_sided(net, 1, place=place, rule=rule)


def threshold_of(kind, tables, place, level):
    """The threshold, value by value from the strangest on."""
    level, many = fractions.Fraction(*level), sum(dealings_of(rows) for rows in tables)
    found = [(value, fractions.Fraction(own, many)) for value, own in spread_of(kind, tables, place)]
    found = found if kind in ("rare", "least") else found[::-1]
    fits = [at for at in range(len(found) + 1) if sum(own for value, own in found[:at]) <= level][-1]
    beyond = sum((own for value, own in found[:fits]), fractions.Fraction(0))
    spare = (level - beyond) / found[fits][1] if fits < len(found) else fractions.Fraction(0)
    return found[fits - 1][0] if fits else None, fraction(beyond, 1), fraction(spare, 1)


class Thresholds(unittest.TestCase):
    def test_against_going_from_the_strangest_on(self):
        seen = {"none": 0, "some": 0, "all": 0}
        for net, measure, tables, kind, place in measured_nets(93, 70):
            levels = [(0, 1), (0, 7), (1, 1), (5, 5), (1, 20), (2, 40), (1, 2), (99, 100)]
            for value, dealings in spread_of(kind, tables, place):
                top, under = share(net, measure, value)
                levels += [(top, under), (3 * top, 3 * under), (1000 * top - 1, 1000 * under)]
            for level in levels:
                with self.subTest(paper=net.paper(), kind=kind, place=place, level=level):
                    told = threshold(net, measure, level=level)
                    self.assertEqual(told, threshold_of(kind, tables, place, level))
                    self.check_form(net, measure, level, told)
                    seen["none" if told[0] is None else "all" if told[1] == (1, 1) else "some"] += 1
        self.assertGreater(min(seen.values()), 100)

    def check_form(self, net, measure, level, told):
        value, beyond, spare = told
        self.assertIs(type(told), tuple)
        self.assertTrue(lowest_terms(beyond) and lowest_terms(spare))
        self.assertTrue(0 <= fractions.Fraction(*spare) < 1)
        self.assertLessEqual(fractions.Fraction(*beyond), fractions.Fraction(*level))
        self.assertEqual(beyond, (0, 1) if value is None else share(net, measure, value))

    def test_by_hand(self):
        net = Net([3, 3], [3, 3])
        most, least = Measure("most", [3, 3], [3, 3]), Measure("least", [3, 3], [3, 3])
        # From the strangest on the values come in 1, 9, 9 and 1 of 20 dealings.
        self.assertEqual(threshold(net, most), (3, (1, 20), (0, 1)))
        self.assertEqual(threshold(net, least), (0, (1, 20), (0, 1)))
        self.assertEqual(threshold(net, most, level=(1, 40)), (None, (0, 1), (1, 2)))
        self.assertEqual(threshold(net, most, level=(1, 10)), (3, (1, 20), (1, 9)))
        self.assertEqual(threshold(net, most, level=(1, 2)), (2, (1, 2), (0, 1)))
        self.assertEqual(threshold(net, most, level=(49, 100)), (3, (1, 20), (44, 45)))
        self.assertEqual(threshold(net, most, level=(0, 1)), (None, (0, 1), (0, 1)))
        self.assertEqual(threshold(net, most, level=(1, 1)), (0, (1, 1), (0, 1)))
        self.assertEqual(threshold(net, least, level=(99, 100)), (2, (19, 20), (4, 5)))

    def test_level_left_out(self):
        self.assertEqual(LEVEL, (1, 20))
        for net, measure, tables, kind, place in measured_nets(94, 30):
            self.assertEqual(threshold(net, measure), threshold(net, measure, level=(1, 20)))

    def test_one_value_alone(self):
        net = Net([2], [1, 1])
        for kind in KINDS:
            measure = Measure(kind, [2], [1, 1])
            value = measure.of([[1, 1]])
            self.assertEqual(threshold(net, measure), (None, (0, 1), (1, 20)))
            self.assertEqual(threshold(net, measure, level=(7, 7)), (value, (1, 1), (0, 1)))

    def test_levels_that_are_none(self):
        net, measure = Net(*SMALL), Measure("rare", *SMALL)
        for level in ((1, 0), (0, 0), (1, -2), (-1, -2), (0, -1), (-1, 2), (-1, 1), (3, 2), (2, 1), (10 ** 9, 1)):
            with self.subTest(level=level):
                with self.assertRaises(BadNumber) as caught:
                    threshold(net, measure, level=level)
                self.assertIsInstance(caught.exception, EdgeError)

    def test_other_sums_ahead_of_a_level_that_is_none(self):
        net = Net(*SMALL)
        for measure in other_measures():
            for level in (LEVEL, (1, 0), (-1, 2), (3, 2)):
                with self.assertRaises(BadSums):
                    threshold(net, measure, level=level)


class Kept(unittest.TestCase):
    def test_net_and_measure_stay(self):
        net, measure = Net([4, 4], [2, 2, 2, 2]), Measure("off", [4, 4], [2, 2, 2, 2])
        paper = copy.deepcopy(net.paper())
        spread(net, measure)
        share(net, measure, 64, side="mid")
        share_holds(net, measure, 64, weighing(net, measure, 64))
        two_sided(net, 1)
        threshold(net, measure)
        self.assertEqual(net.paper(), paper)
        self.assertEqual((measure.rowsums(), measure.columnsums()), ([4, 4], [2, 2, 2, 2]))


if __name__ == "__main__":
    unittest.main()
