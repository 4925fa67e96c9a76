import itertools
import unittest
from fractions import Fraction

from stepgrove.changes import is_change
from stepgrove.errors import NoStart
from stepgrove.polys import poly_at, poly_scaled, poly_slope, poly_sum, poly_times

from plain import (
    chances, plain_at, plain_poly, plain_slope, plain_sum, plain_times, some_change, some_fraction, some_start, told,
    told_poly,
)
from things import no_starts, own_answer, refused

ONE = (1, 1)
BIG = 10 ** 12 - 11


def x(power, top=1, bottom=1):
    return ((power,), (top, bottom))


def some_polys(seed, figures=30):
    """Pairs of polynomials of like n, one to four unknowns."""
    chance = chances(seed)
    pairs = []
    for unknowns in (1, 2, 3, 4):
        for terms in (1, 3, 12):
            change = some_change(chance, unknowns, terms, 3, figures) + some_change(chance, unknowns, terms, 2, figures)
            pairs.extend(itertools.product(change[:2] + [[]], change[-2:] + [[]]))
    return pairs


class Sum(unittest.TestCase):
    def test_plain_answers(self):
        self.assertEqual(poly_sum([x(1)], [x(0)]), [x(1), x(0)])
        self.assertEqual(poly_sum([x(0)], [x(1)]), [x(1), x(0)])
        self.assertEqual(poly_sum([x(2), x(0, 1, 2)], [x(1, 3), x(0, 1, 3)]), [x(2), x(1, 3), x(0, 5, 6)])

    def test_0(self):
        self.assertEqual(poly_sum([], []), [])
        self.assertEqual(poly_sum([], [x(3, -1, 2)]), [x(3, -1, 2)])
        self.assertEqual(poly_sum([x(3, -1, 2)], []), [x(3, -1, 2)])

    def test_terms_that_cancel_one_another(self):
        self.assertEqual(poly_sum([x(2), x(1, 1, 2)], [x(1, -1, 2), x(0)]), [x(2), x(0)])
        self.assertEqual(poly_sum([x(2, 1, 3), x(1)], [x(2, -1, 3), x(1, -1)]), [])

    def test_with_itself(self):
        some = [x(2, 1, 4), x(0, -1, 3)]
        self.assertEqual(poly_sum(some, some), [x(2, 1, 2), x(0, -2, 3)])
        self.assertEqual(some, [x(2, 1, 4), x(0, -1, 3)])

    def test_greater_powers_first(self):
        self.assertEqual(
            poly_sum([((0, 3), ONE)], [((1, 0), ONE), ((0, 10), ONE)]), [((1, 0), ONE), ((0, 10), ONE), ((0, 3), ONE)])
        self.assertEqual(poly_sum([((0, 0, 0, 3), ONE)], [((1, 0, 0, 0), ONE)])[0][0], (1, 0, 0, 0))

    def test_many_pairs(self):
        for one, other in some_polys(1):
            self.assertEqual(poly_sum(one, other), told_poly(plain_sum(plain_poly(one), plain_poly(other))))


class Times(unittest.TestCase):
    def test_plain_answers(self):
        self.assertEqual(poly_times([x(1), x(0)], [x(1), x(0, 2)]), [x(2), x(1, 3), x(0, 2)])
        self.assertEqual(poly_times([x(1, 2, 3)], [x(2, 3, 4)]), [x(3, 1, 2)])
        self.assertEqual(poly_times([((1, 0), ONE)], [((0, 1), (1, 2))]), [((1, 1), (1, 2))])

    def test_0(self):
        self.assertEqual(poly_times([], []), [])
        self.assertEqual(poly_times([x(1)], []), [])
        self.assertEqual(poly_times([], [x(1)]), [])

    def test_terms_that_cancel_one_another(self):
        self.assertEqual(poly_times([x(1), x(0)], [x(1), x(0, -1)]), [x(2), x(0, -1)])
        plus = [((1, 0), ONE), ((0, 1), ONE)]
        less = [((1, 0), ONE), ((0, 1), (-1, 1))]
        self.assertEqual(poly_times(plus, less), [((2, 0), ONE), ((0, 2), (-1, 1))])

    def test_with_itself(self):
        some = [x(1, 1, 2), x(0, 1, 3)]
        self.assertEqual(poly_times(some, some), [x(2, 1, 4), x(1, 1, 3), x(0, 1, 9)])
        self.assertEqual(some, [x(1, 1, 2), x(0, 1, 3)])

    def test_greater_powers_first(self):
        some = [((1, 0, 0, 0), ONE), ((0, 0, 0, 3), ONE)]
        other = [((0, 5, 0, 0), ONE), ((0, 0, 1, 0), ONE)]
        powers = [term[0] for term in poly_times(some, other)]
        self.assertEqual(powers, [(1, 5, 0, 0), (1, 0, 1, 0), (0, 5, 0, 3), (0, 0, 1, 3)])

    def test_many_pairs(self):
        for one, other in some_polys(2) + some_polys(3, BIG):
            product = poly_times(one, other)
            self.assertEqual(product, told_poly(plain_times(plain_poly(one), plain_poly(other))))
            self.assertEqual(product, poly_times(other, one))

    def test_what_was_told_may_be_handed_in_again(self):
        some = [x(1, 1, BIG), x(0, BIG, BIG - 1)]
        product = [x(0)]
        due = {(0,): Fraction(1)}
        for _ in range(20):
            product = poly_times(product, some)
            due = plain_times(due, plain_poly(some))
        self.assertEqual(product, told_poly(due))
        self.assertEqual(len(product), 21)

    def test_long_polynomials(self):
        one = [x(power, 1, power + 1) for power in range(150, -1, -1)]
        other = [x(power, -1, power + 2) for power in range(150, -1, -1)]
        self.assertEqual(poly_times(one, other), told_poly(plain_times(plain_poly(one), plain_poly(other))))


class Scaled(unittest.TestCase):
    def test_plain_answers(self):
        self.assertEqual(poly_scaled([x(2, 1, 2), x(0, -3)], (2, 3)), [x(2, 1, 3), x(0, -2)])
        self.assertEqual(poly_scaled([x(2, 1, 2)], (-2, 1)), [x(2, -1)])
        self.assertEqual(poly_scaled([x(2, 1, 2)], ONE), [x(2, 1, 2)])

    def test_by_0_it_is_0(self):
        self.assertEqual(poly_scaled([x(2, 1, 2), x(0, -3)], (0, 1)), [])
        self.assertEqual(poly_scaled([], (0, 1)), [])

    def test_0_stays(self):
        self.assertEqual(poly_scaled([], (5, 7)), [])

    def test_many(self):
        chance = chances(4)
        for one, other in some_polys(5):
            part = some_fraction(chance, BIG)
            due = {powers: worth * Fraction(*part) for powers, worth in plain_poly(one).items()}
            self.assertEqual(poly_scaled(one, part), told_poly(due))


class Slope(unittest.TestCase):
    def test_plain_answers(self):
        self.assertEqual(poly_slope([x(3), x(2, 1, 2), x(1, 5), x(0, 7)], 0), [x(2, 3), x(1), x(0, 5)])
        some = [((2, 1), (1, 2)), ((0, 3), (1, 6)), ((0, 0), ONE)]
        self.assertEqual(poly_slope(some, 0), [((1, 1), ONE)])
        self.assertEqual(poly_slope(some, 1), [((2, 0), (1, 2)), ((0, 2), (1, 2))])

    def test_no_term_where_the_power_is_0(self):
        self.assertEqual(poly_slope([x(0, 5)], 0), [])
        self.assertEqual(poly_slope([((3, 0), ONE)], 1), [])
        self.assertEqual(poly_slope([], 0), [])
        self.assertEqual(poly_slope([((0, 0, 0, 2), ONE)], 3), [((0, 0, 0, 1), (2, 1))])

    def test_lowest_terms(self):
        self.assertEqual(poly_slope([x(6, 5, 4)], 0), [x(5, 15, 2)])
        self.assertEqual(poly_slope([x(30, -1, 30)], 0), [x(29, -1)])

    def test_many(self):
        for one, other in some_polys(6):
            for some in (one, other):
                for k in range(len(some[0][0]) if some else 1):
                    self.assertEqual(poly_slope(some, k), told_poly(plain_slope(plain_poly(some), k)))

    def test_slope_of_a_product(self):
        for one, other in some_polys(7):
            for k in range(len((one + other)[0][0]) if one + other else 1):
                first = poly_times(poly_slope(one, k), other)
                second = poly_times(one, poly_slope(other, k))
                self.assertEqual(poly_slope(poly_times(one, other), k), poly_sum(first, second))


class At(unittest.TestCase):
    def test_plain_answers(self):
        self.assertEqual(poly_at([x(2), x(1, -1, 2), x(0, 3)], [(1, 2)]), (3, 1))
        self.assertEqual(poly_at([((1, 2), (2, 3))], [(3, 1), (1, 2)]), (1, 2))
        self.assertEqual(poly_at([((1, 0, 0, 1), ONE)], [(1, 2), (5, 1), (7, 1), (-1, 3)]), (-1, 6))

    def test_0(self):
        for start in ([(1, 2)], [(0, 1), (5, 3)], [(1, 2)] * 4):
            self.assertEqual(poly_at([], start), (0, 1))

    def test_at_0(self):
        self.assertEqual(poly_at([x(2), x(1), x(0, 3, 4)], [(0, 1)]), (3, 4))
        self.assertEqual(poly_at([x(2), x(1)], [(0, 1)]), (0, 1))

    def test_great_powers(self):
        self.assertEqual(poly_at([x(30)], [(-2, 3)]), (2 ** 30, 3 ** 30))
        self.assertEqual(poly_at([x(31)], [(-2, 3)]), (-2 ** 31, 3 ** 31))
        self.assertEqual(poly_at([x(10 ** 30)], [(-1, 1)]), ONE)

    def test_many(self):
        chance = chances(8)
        for one, other in some_polys(9, BIG):
            for some in (one, other):
                start = some_start(chance, len(some[0][0]) if some else 2, BIG)
                due = plain_at(plain_poly(some), [Fraction(*place) for place in start])
                self.assertEqual(poly_at(some, start), told(due))

    def test_worths_of_sums_and_products(self):
        chance = chances(10)
        for one, other in some_polys(11):
            start = some_start(chance, len((one + other)[0][0]) if one + other else 1, 50)
            left = Fraction(*poly_at(one, start))
            right = Fraction(*poly_at(other, start))
            self.assertEqual(poly_at(poly_sum(one, other), start), told(left + right))
            self.assertEqual(poly_at(poly_times(one, other), start), told(left * right))

    def test_what_is_no_start_is_refused(self):
        for some in ([x(1)], [((1, 2), ONE), ((0, 0), ONE)]):
            for thing in no_starts(len(some[0][0])):
                with self.subTest(thing):
                    refused(self, NoStart, poly_at, some, thing)
        for thing in (None, (), ((1, 2),), [(2, 4)], [None], "", 0):
            refused(self, NoStart, poly_at, [], thing)


class Answers(unittest.TestCase):
    def test_answers_are_polynomials(self):
        for one, other in some_polys(12):
            for some in (poly_sum(one, other), poly_times(one, other), poly_scaled(one, (2, 7)), poly_slope(one, 0)):
                unknowns = len(some[0][0]) if some else 1
                self.assertIs(is_change([some] + [[]] * (unknowns - 1)), True)

    def test_told_lists_are_the_askers_own(self):
        some = [((2, 0), (1, 2)), ((0, 1), ONE)]
        other = [((1, 1), ONE), ((0, 1), (-1, 1))]
        for one in ([], some, other):
            for two in ([], some, other):
                own_answer(self, poly_sum, list(one), list(two))
                own_answer(self, poly_times, list(one), list(two))
            for part in (ONE, (0, 1), (2, 3)):
                own_answer(self, poly_scaled, list(one), part)
            own_answer(self, poly_slope, list(one), 0)
            own_answer(self, poly_slope, list(one), 1)
            own_answer(self, poly_at, list(one), [(1, 2), (1, 3)])


if __name__ == "__main__":
    unittest.main()
