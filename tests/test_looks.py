import copy
import fractions
import unittest

from edgetally.errors import BadNumber, BadSums, EdgeError
from edgetally.looks import Look
from edgetally.measures import KINDS, Measure
from edgetally.net import Net
from listing import all_free, all_tables
from weighed import Case, cases

# Rows that are in, out and open, and some that come together.
MIXED_SUMS = ([4, 4], [2, 2, 2, 2])
MIXED = Case("off", *MIXED_SUMS, None, all_tables(*MIXED_SUMS), (0, 0), 64)


class Rows(unittest.TestCase):
    def test_the_rows_are_those_of_the_weighing(self):
        verdicts = {"in": 0, "out": 0, "open": 0}
        for case in cases(70, 120):
            with self.subTest(case=case):
                told, look = case.weighing(), case.look()
                self.assertEqual(look.told_rows(), [])
                self.assertEqual(look.step(many=len(told)), len(told))
                self.assertEqual(look.told_rows(), told)
                self.assertIs(look.ended(), True)
                for row in told:
                    verdicts[row[4]] += 1
        self.assertGreater(min(verdicts.values()), 100)

    def test_row_by_row(self):
        for case in cases(71, 30):
            with self.subTest(case=case):
                told, look = case.weighing(), case.look()
                for gone in range(len(told)):
                    self.assertIs(look.ended(), False)
                    self.assertEqual(look.step(), 1)
                    self.assertEqual(look.told_rows(), told[:gone + 1])
                self.assertIs(look.ended(), True)
                self.assertEqual(look.step(), 0)
                self.assertEqual(look.told_rows(), told)

    def test_rows_that_come_together_are_one(self):
        told = MIXED.weighing()
        # By (0, 2) and then (2, 0), or by (2, 0) and then (0, 2): one dealing each.
        self.assertIn((2, (2, 2), 32, 2, "open"), told)
        self.assertEqual({row[4] for row in told}, {"in", "out", "open"})
        look = MIXED.look()
        look.step(many=100)
        self.assertEqual(look.told_rows(), told)

    def test_by_hand(self):
        look = Look(Net([2, 1], [1, 2]), Measure("rare", [2, 1], [1, 2]), 1)
        self.assertEqual(look.step(many=9), 3)
        self.assertEqual(look.told_rows(), [
            (0, (2, 1), 1, 1, "open"), (1, (1, 1), 1, 1, "out"), (1, (2, 0), 1, 1, "in"),
        ])
        self.assertEqual(look.between(), ((1, 3), (1, 3)))

    def test_in_or_out_at_the_first_row(self):
        net, measure = Net([2, 1], [1, 2]), Measure("rare", [2, 1], [1, 2])
        for seen, verdict, share in ((2, "in", (1, 1)), (99, "in", (1, 1)), (0, "out", (0, 1)), (-5, "out", (0, 1))):
            look = Look(net, measure, seen)
            self.assertEqual(look.step(many=5), 1)
            self.assertEqual(look.told_rows(), [(0, (2, 1), 1, 1, verdict)])
            self.assertEqual(look.between(), (share, share))
            self.assertIs(look.ended(), True)

    def test_a_net_of_nothing(self):
        for kind in KINDS:
            measure = Measure(kind, [0], [0])
            look = Look(Net([0], [0]), measure, measure.begun())
            self.assertEqual(look.step(many=3), 1)
            self.assertEqual(look.told_rows(), [(0, (0,), measure.begun(), 1, "in")])

    def test_kinds(self):
        look = MIXED.look()
        look.step(many=4)
        self.assertIs(type(look.told_rows()), list)
        for level, rests, gathered, dealings, verdict in look.told_rows():
            self.assertEqual([type(level), type(rests), type(gathered), type(dealings)], [int, tuple, int, int])
        self.assertTrue(all(type(row) is tuple for row in look.told_rows()))
        self.assertIs(type(look.between()), tuple)
        self.assertTrue(all(type(share) is tuple for share in look.between()))


class Steps(unittest.TestCase):
    def test_by_one_by_many_and_by_more_than_are_left(self):
        told = MIXED.weighing()
        self.assertGreater(len(told), 6)
        look = MIXED.look()
        self.assertEqual(look.step(), 1)
        self.assertEqual(look.step(many=1), 1)
        self.assertEqual(look.step(many=3), 3)
        self.assertEqual(look.told_rows(), told[:5])
        self.assertEqual(look.step(many=1000), len(told) - 5)
        self.assertEqual(look.told_rows(), told)
        self.assertEqual(look.step(many=1000), 0)
        self.assertEqual(look.step(many=0), 0)

    def test_just_as_many_as_are_left(self):
        told, look = MIXED.weighing(), MIXED.look()
        self.assertEqual(look.step(many=len(told) - 1), len(told) - 1)
        self.assertIs(look.ended(), False)
        self.assertEqual(look.step(many=1), 1)
        self.assertIs(look.ended(), True)

    def test_by_nought(self):
        look = MIXED.look()
        for gone in range(3):
            ahead = look.told_rows(), look.between(), look.ended()
            self.assertEqual(look.step(many=0), 0)
            self.assertEqual((look.told_rows(), look.between(), look.ended()), ahead)
            look.step()

    def test_below_nought(self):
        look = MIXED.look()
        for gone in range(len(MIXED.weighing()) + 1):
            ahead = look.told_rows(), look.between(), look.ended()
            for many in (-1, -2, -1000):
                with self.assertRaises(BadNumber) as caught:
                    look.step(many=many)
                self.assertIsInstance(caught.exception, EdgeError)
                self.assertEqual((look.told_rows(), look.between(), look.ended()), ahead)
            look.step()
        self.assertEqual(look.told_rows(), MIXED.weighing())

    def test_two_looks_go_their_own_ways(self):
        one, other = MIXED.look(), MIXED.look()
        one.step(many=5)
        self.assertEqual(other.told_rows(), [])
        self.assertEqual(other.between(), ((0, 1), (1, 1)))
        other.step(many=2)
        self.assertEqual(one.told_rows(), MIXED.weighing()[:5])
        self.assertEqual(other.told_rows(), MIXED.weighing()[:2])


class Between(unittest.TestCase):
    def test_closes_in_on_the_share(self):
        midst = 0
        for case in cases(72, 60):
            with self.subTest(case=case):
                told, look, share = case.weighing(), case.look(), fractions.Fraction(*case.share())
                self.assertEqual(look.between(), ((0, 1), (1, 1)))
                for gone in range(len(told)):
                    look.step()
                    low, high = look.between()
                    self.assertEqual((low, high), case.between(told[:gone + 1]))
                    self.assertTrue(fractions.Fraction(*low) <= share <= fractions.Fraction(*high))
                    midst += (0, 1) != low != high != (1, 1)
                self.assertEqual(look.between(), (case.share(), case.share()))
        self.assertGreater(midst, 50)

    def test_at_the_end(self):
        for case in cases(73, 120):
            with self.subTest(case=case):
                look = case.look()
                look.step(many=100000)
                self.assertEqual(look.between(), (case.share(), case.share()))

    def test_each_value_of_a_wider_net(self):
        rowsums, columnsums = [4, 5, 3], [3, 4, 3, 2]
        net = Net(rowsums, columnsums)
        for kind in KINDS:
            measure = Measure(kind, rowsums, columnsums, place=(1, 2))
            low, high = Look(net, measure, 7), Look(net, measure, 7)
            low.step(many=10 ** 6)
            while not high.ended():
                high.step(many=7)
            self.assertEqual(low.told_rows(), high.told_rows())
            self.assertEqual(low.between()[0], low.between()[1])


class Kept(unittest.TestCase):
    def test_told_rows_changed_and_asked_again(self):
        told, look = MIXED.weighing(), MIXED.look()
        for gone in range(len(told)):
            rows = look.told_rows()
            rows.append(9)
            rows[0] = 9
            self.assertEqual(look.told_rows(), told[:gone])
            look.step()
        self.assertEqual(look.told_rows(), told)

    def test_lists_handed_in_changed_meanwhile(self):
        rowsums, columnsums, bounds = [4, 4], [2, 2, 2, 2], all_free(2, 4)
        look = Look(Net(rowsums, columnsums, bounds=bounds), Measure("off", rowsums, columnsums), 64)
        look.step(many=2)
        rowsums[0] = columnsums[0] = 9
        bounds[0][0] = (0, 0)
        look.step(many=100)
        self.assertEqual(look.told_rows(), MIXED.weighing())

    def test_net_and_measure_stay(self):
        net, measure = Net(*MIXED_SUMS), Measure("off", *MIXED_SUMS)
        paper = copy.deepcopy(net.paper())
        look = Look(net, measure, 64)
        look.step(many=100)
        self.assertEqual(net.paper(), paper)
        self.assertEqual((measure.rowsums(), measure.columnsums()), MIXED_SUMS)


class Refused(unittest.TestCase):
    def test_a_measure_of_other_sums(self):
        net = Net([2, 1], [1, 2])
        for rowsums, columnsums in (
            ([1, 2], [1, 2]), ([2, 1], [2, 1]), ([2, 1, 0], [1, 2]), ([2, 1], [1, 2, 0]), ([3], [3]), ([2, 2], [2, 2]),
        ):
            for kind in KINDS:
                with self.assertRaises(BadSums):
                    Look(net, Measure(kind, rowsums, columnsums), 1)


if __name__ == "__main__":
    unittest.main()
