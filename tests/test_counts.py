import itertools
import math
import unittest
from fractions import Fraction

from edgetally.counts import fillings, held, lowest, plus, times, ways
from edgetally.errors import BadNumber


class Ways(unittest.TestCase):
    def test_known_ones(self):
        for parts, told in [
            ([], 1),
            ([0], 1),
            ([7], 1),
            ([0, 0, 0], 1),
            ([1, 1], 2),
            ([2, 1], 3),
            ([0, 2, 0, 2], 6),
            ([1, 2, 3], 60),
            ([1, 1, 1, 1, 1, 1], 720),
            ([10, 10, 10, 10, 10, 10], math.factorial(60) // math.factorial(10) ** 6),
            ([30, 30], 118264581564861424),
            ([1, 59], 60),
            ([60, 0], 1),
        ]:
            with self.subTest(parts):
                self.assertEqual(ways(parts), told)

    def test_by_laying_marked_things(self):
        for size in range(1, 4):
            for parts in itertools.product(range(3), repeat=size):
                heaps = [heap for heap, part in enumerate(parts) for thing in range(part)]
                with self.subTest(parts):
                    self.assertEqual(ways(list(parts)), len(set(itertools.permutations(heaps))))

    def test_by_factorials_up_to_six_parts(self):
        for size in range(7):
            for parts in itertools.product((0, 1, 4), repeat=size):
                under = math.prod(math.factorial(part) for part in parts)
                self.assertEqual(ways(list(parts)), math.factorial(sum(parts)) // under)

    def test_all_of_sixty_in_two_parts(self):
        for part in range(61):
            self.assertEqual(ways([part, 60 - part]), math.comb(60, part))

    def test_a_part_below_nought_at_each_place(self):
        for size in range(1, 7):
            for place in range(size):
                for low in (-1, -2, -40):
                    parts = [2] * size
                    parts[place] = low
                    with self.subTest(parts):
                        with self.assertRaises(BadNumber):
                            ways(parts)

    def test_the_list_stays(self):
        for parts in ([3, 0, 2], [1, -1, 5]):
            kept = list(parts)
            try:
                ways(parts)
            except BadNumber:
                pass
            self.assertEqual(parts, kept)


LONG = 10 ** 33 + 7
TOPS = [-LONG * 6, -LONG, -60, -7, -1, 0, 1, 3, 8, 60, LONG, LONG * 6, 10 ** 199]
UNDERS = [1, 2, 6, 9, 60, LONG, LONG * 4, 10 ** 199]
FRACTIONS = [(top, under) for top in TOPS for under in UNDERS]


def pair_of(fraction):
    return (fraction.numerator, fraction.denominator)


class Fractions(unittest.TestCase):
    def test_lowest(self):
        for top, under, told in [
            (6, 4, (3, 2)),
            (-6, 4, (-3, 2)),
            (0, 1, (0, 1)),
            (0, 12, (0, 1)),
            (5, 1, (5, 1)),
            (40, 40, (1, 1)),
            (3, 7, (3, 7)),
        ]:
            with self.subTest(top=top, under=under):
                self.assertEqual(lowest(top, under), told)
                self.assertIsInstance(lowest(top, under), tuple)

    def test_lowest_against_exact_ones(self):
        for top, under in FRACTIONS:
            with self.subTest(top=top, under=under):
                self.assertEqual(lowest(top, under), pair_of(Fraction(top, under)))

    def test_lowest_refuses_an_under_below_one(self):
        for top in (-3, 0, 1, LONG):
            for under in (0, -1, -2, -LONG):
                with self.subTest(top=top, under=under):
                    with self.assertRaises(BadNumber):
                        lowest(top, under)

    def test_plus_times_and_held_against_exact_ones(self):
        for one, other in itertools.product(FRACTIONS, repeat=2):
            left, right = Fraction(*one), Fraction(*other)
            self.assertEqual(plus(one, other), pair_of(left + right))
            self.assertEqual(times(one, other), pair_of(left * right))
            self.assertEqual(held(one, other), (left > right) - (left < right))

    def test_plus_and_times_tell_tuples_in_lowest_terms(self):
        self.assertEqual(plus((2, 4), (3, 6)), (1, 1))
        self.assertEqual(plus((1, 2), (-3, 6)), (0, 1))
        self.assertEqual(times((2, 4), (6, 9)), (1, 3))
        self.assertEqual(times((0, 5), (7, 8)), (0, 1))
        self.assertIsInstance(plus((1, 2), (1, 3)), tuple)
        self.assertIsInstance(times((1, 2), (1, 3)), tuple)

    def test_held(self):
        for one, other, told in [
            ((1, 3), (1, 2), -1),
            ((1, 2), (1, 3), 1),
            ((-1, 2), (-1, 3), -1),
            ((-1, 2), (1, 2), -1),
            ((0, 1), (0, 9), 0),
            ((2, 4), (1, 2), 0),
            ((1, 2), (2, 4), 0),
            ((LONG, 1), (LONG + 1, 1), -1),
        ]:
            with self.subTest(one=one, other=other):
                self.assertEqual(held(one, other), told)

    def test_a_fraction_and_itself_with_a_common_factor(self):
        for top, under in FRACTIONS:
            self.assertEqual(held((top, under), (top * 12, under * 12)), 0)
            self.assertEqual(held((top * 12, under * 12), (top, under)), 0)


def tried(rests, many, pairs):
    """All fillings, by trying all tuples of counts up to the rests."""
    return [
        counts
        for counts in itertools.product(*[range(rest + 1) for rest in rests])
        if sum(counts) == many
        and all(low <= count <= high for count, (low, high) in zip(counts, pairs))
    ]


FREE = (0, 40)
BARRED = (0, 0)


class Fillings(unittest.TestCase):
    def test_known_ones(self):
        self.assertEqual(fillings([2, 1], 2, [FREE, FREE]), [(1, 1), (2, 0)])
        self.assertEqual(fillings([3], 3, [FREE]), [(3,)])
        self.assertEqual(fillings([2, 2, 2], 0, [FREE] * 3), [(0, 0, 0)])
        self.assertEqual(
            fillings([2, 2, 2], 3, [(1, 2), BARRED, FREE]), [(1, 0, 2), (2, 0, 1)]
        )

    def check(self, rests, pairs):
        for many in range(-1, sum(rests) + 3):
            rests_kept, pairs_kept = list(rests), list(pairs)
            told = fillings(rests, many, pairs)
            with self.subTest(rests=rests, many=many, pairs=pairs):
                self.assertIsInstance(told, list)
                self.assertTrue(all(isinstance(counts, tuple) for counts in told))
                self.assertEqual(told, tried(rests, many, pairs))
                self.assertEqual(told, sorted(told))
                self.assertEqual((rests, pairs), (rests_kept, pairs_kept))

    def test_against_trying_all_tuples(self):
        choices = [FREE, BARRED, (1, 40), (0, 1), (1, 2), (2, 2), (3, 40)]
        for rests in ([0], [1], [2], [5], [40]):
            for pair in choices + [(40, 40), (0, 39)]:
                self.check(rests, [pair])
        for rests in ([0, 0], [2, 3], [4, 0], [3, 3]):
            for pairs in itertools.product(choices, repeat=2):
                self.check(rests, list(pairs))
        for rests in ([2, 0, 3], [1, 2, 2]):
            for pairs in itertools.product(choices[:5], repeat=3):
                self.check(rests, list(pairs))
        for rests in ([2, 1, 0, 3], [2, 2, 2, 2]):
            for pairs in itertools.product(choices[:4], repeat=4):
                self.check(rests, list(pairs))

    def test_the_widest(self):
        for rests in ([4, 4, 4, 3], [9, 9, 4], [21, 21], [3, 4, 4, 4]):
            self.check(rests, [FREE] * len(rests))

    def test_a_low_above_the_rest(self):
        for many in range(6):
            self.assertEqual(fillings([2, 3], many, [(3, 40), FREE]), [])
            self.assertEqual(fillings([2, 3], many, [FREE, (4, 4)]), [])

    def test_sums_that_no_filling_has(self):
        self.assertEqual(fillings([2, 3], 6, [FREE, FREE]), [])
        self.assertEqual(fillings([2, 3], 1, [(1, 2), (1, 3)]), [])
        self.assertEqual(fillings([2, 3], 3, [(0, 1), (0, 1)]), [])
        self.assertEqual(fillings([0, 0], 1, [FREE, FREE]), [])

    def test_a_told_list_changed_changes_no_later_answer(self):
        told = fillings([2, 1], 2, [FREE, FREE])
        told.clear()
        self.assertEqual(fillings([2, 1], 2, [FREE, FREE]), [(1, 1), (2, 0)])


if __name__ == "__main__":
    unittest.main()
