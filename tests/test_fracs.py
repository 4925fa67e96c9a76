import copy
import math
import unittest
from fractions import Fraction

from stepgrove.errors import GroveError, NoBottom
from stepgrove.fracs import (
    common_bottom, frac_by, frac_less, frac_sum, frac_times, frac_total, fraction_of, is_fraction, power_of,
)

from plain import told
from things import odd_things

BIG = 999999999989
SOME = [
    (0, 1), (1, 1), (-1, 1), (1, 2), (-1, 2), (1, 3), (2, 3), (-3, 4), (5, 6), (7, 12), (12, 7), (-9, 10),
    (BIG, 999999999988), (-BIG, 1), (1, BIG), (10 ** 60 + 1, 10 ** 60),
]


class FractionOf(unittest.TestCase):
    def test_tells_lowest_terms(self):
        self.assertEqual(fraction_of(1, 2), (1, 2))
        self.assertEqual(fraction_of(6, 4), (3, 2))
        self.assertEqual(fraction_of(-6, 4), (-3, 2))
        self.assertEqual(fraction_of(8, 4), (2, 1))
        self.assertEqual(fraction_of(7, 7), (1, 1))

    def test_bottom_below_0(self):
        self.assertEqual(fraction_of(6, -4), (-3, 2))
        self.assertEqual(fraction_of(-6, -4), (3, 2))
        self.assertEqual(fraction_of(5, -1), (-5, 1))

    def test_top_of_0(self):
        for bottom in (1, 2, 12, BIG, -1, -2, -12, -BIG):
            with self.subTest(bottom):
                self.assertEqual(fraction_of(0, bottom), (0, 1))

    def test_bottom_of_0_is_refused(self):
        for top in (0, 1, -1, 12, BIG):
            with self.subTest(top):
                with self.assertRaises(NoBottom) as caught:
                    fraction_of(top, 0)
                self.assertIs(type(caught.exception), NoBottom)

    def test_all_small_tops_and_bottoms(self):
        for top in range(-24, 25):
            for bottom in list(range(-24, 0)) + list(range(1, 25)):
                answer = fraction_of(top, bottom)
                self.assertEqual(answer, told(Fraction(top, bottom)), (top, bottom))
                self.assertIs(is_fraction(answer), True)

    def test_many_figures(self):
        factor = 10 ** 200 + 7
        self.assertEqual(fraction_of(3 * factor, -6 * factor), (-1, 2))
        self.assertEqual(fraction_of(BIG * 1000, 999999999988 * 1000), (BIG, 999999999988))

    def test_tells_tuples_of_whole_numbers(self):
        for answer in (fraction_of(4, 2), fraction_of(-9, 3), frac_sum((1, 2), (1, 2)), frac_by((1, 2), (-1, 4))):
            self.assertIs(type(answer), tuple)
            self.assertEqual([type(part) for part in answer], [int, int])


class Reckoning(unittest.TestCase):
    def test_plain_answers(self):
        self.assertEqual(frac_sum((1, 2), (1, 3)), (5, 6))
        self.assertEqual(frac_less((1, 2), (1, 3)), (1, 6))
        self.assertEqual(frac_less((1, 3), (1, 2)), (-1, 6))
        self.assertEqual(frac_times((1, 2), (2, 3)), (1, 3))
        self.assertEqual(frac_by((1, 2), (1, 3)), (3, 2))
        self.assertEqual(frac_by((1, 2), (-1, 3)), (-3, 2))
        self.assertEqual(frac_by((0, 1), (-5, 3)), (0, 1))

    def test_answers_are_in_lowest_terms(self):
        self.assertEqual(frac_sum((1, 6), (1, 3)), (1, 2))
        self.assertEqual(frac_sum((1, 2), (-1, 2)), (0, 1))
        self.assertEqual(frac_less((5, 6), (5, 6)), (0, 1))
        self.assertEqual(frac_times((2, 3), (3, 2)), (1, 1))
        self.assertEqual(frac_by((-3, 4), (-3, 4)), (1, 1))

    def test_all_pairs_of_some(self):
        for one in SOME:
            for other in SOME:
                left = Fraction(*one)
                right = Fraction(*other)
                self.assertEqual(frac_sum(one, other), told(left + right), (one, other))
                self.assertEqual(frac_less(one, other), told(left - right), (one, other))
                self.assertEqual(frac_times(one, other), told(left * right), (one, other))
                if other != (0, 1):
                    self.assertEqual(frac_by(one, other), told(left / right), (one, other))

    def test_by_0_is_refused(self):
        for one in SOME:
            with self.subTest(one):
                with self.assertRaises(NoBottom) as caught:
                    frac_by(one, (0, 1))
                self.assertIs(type(caught.exception), NoBottom)
                self.assertIsInstance(caught.exception, GroveError)

    def test_what_was_told_may_be_handed_in_again(self):
        total = (0, 1)
        real = Fraction(0)
        for bottom in range(1, 200):
            total = frac_sum(total, fraction_of(1, bottom))
            real = real + Fraction(1, bottom)
        self.assertEqual(total, told(real))
        self.assertGreater(len(str(total[1])), 60)
        self.assertEqual(frac_by(total, total), (1, 1))


class Totals(unittest.TestCase):
    def test_common_bottom(self):
        self.assertEqual(common_bottom([]), 1)
        self.assertEqual(common_bottom([4, 6, 1, 10]), 60)
        self.assertEqual(common_bottom([BIG, BIG]), BIG)

    def test_total_is_the_sum_one_by_one(self):
        self.assertEqual(frac_total([]), (0, 1))
        self.assertEqual(frac_total([(1, 2), (-1, 2)]), (0, 1))
        self.assertEqual(frac_total([(2, 4), (3, 9)]), (5, 6))
        for many in range(len(SOME) + 1):
            self.assertEqual(frac_total(SOME[:many]), told(sum([Fraction(*one) for one in SOME[:many]], Fraction(0))))

    def test_powers(self):
        for base in (-3, -1, 0, 1, 2, BIG):
            for power in range(40):
                self.assertEqual(power_of(base, power), base ** power)
        self.assertEqual(power_of(-1, 10 ** 30 + 1), -1)


class IsFraction(unittest.TestCase):
    def test_fractions(self):
        for thing in SOME:
            with self.subTest(thing):
                self.assertIs(is_fraction(thing), True)

    def test_not_in_lowest_terms(self):
        for thing in ((2, 4), (-2, 4), (6, 3), (0, 2), (0, 12), (5, 5), (BIG, BIG)):
            with self.subTest(thing):
                self.assertIs(is_fraction(thing), False)

    def test_bottom_of_0_or_below(self):
        for thing in ((1, 0), (0, 0), (-1, 0), (1, -2), (-1, -2), (0, -1), (1, -1)):
            with self.subTest(thing):
                self.assertIs(is_fraction(thing), False)

    def test_true_and_false_are_no_numbers(self):
        for thing in ((True, 1), (1, True), (True, True), (False, 1), (True, 2), (1, False), (False, True)):
            with self.subTest(thing):
                self.assertIs(is_fraction(thing), False)

    def test_lists_and_other_lengths(self):
        for thing in ([1, 2], [0, 1], [], (), (1,), (1, 2, 3), (1, 2, 1), ((1, 2),), ((1, 2), (1, 3)), [(1, 2)]):
            with self.subTest(thing):
                self.assertIs(is_fraction(thing), False)

    def test_other_things(self):
        for thing in odd_things() + [("1", "2"), (1, None), (None, 1), ((1,), 2), (1, [2]), (1, ()), (1, "2"), "12"]:
            before = copy.deepcopy(thing)
            with self.subTest(thing):
                self.assertIs(is_fraction(thing), False)
                self.assertEqual(thing, before)

    def test_all_small_pairs(self):
        for top in range(-12, 13):
            for bottom in range(-12, 13):
                due = bottom >= 1 and math.gcd(top, bottom) == 1
                self.assertIs(is_fraction((top, bottom)), due, (top, bottom))


if __name__ == "__main__":
    unittest.main()
