import unittest
from fractions import Fraction

from stepgrove.errors import NotAlike, NoWeighing
from stepgrove.fracs import is_fraction
from stepgrove.groves import grove_rows
from stepgrove.joins import table_behind, table_shrunk
from stepgrove.orders import weighing_order
from stepgrove.tables import table_of
from stepgrove.trees import tree_knots, trees_to
from stepgrove.weighings import weighing_composed, weighing_mirrored, weighing_turned, weighing_undone
from stepgrove.weights import table_weighing, true_weighing

from plain import (
    chances, cuts_by_knots, plain_step_on, some_change, some_fraction, some_start, some_tables, some_weighing,
    some_weighings, tables_behind, told,
)
from things import OF_ORDER_3, OF_ORDER_5, OF_ORDER_6, WEIGHING_LENGTHS, no_weighings, own_answer, refused

NO = (0, 1)
ONE = (1, 1)
HALF = (1, 2)
LESS = (-1, 1)
BIG = 10 ** 12 - 11
NAMES = ["plain", "middle", "heel", "third", "fourth"]
PARTS = [NO, ONE, LESS, (2, 1), HALF, (-2, 3), (7, 5)]
CUTS = {tree: cuts_by_knots(tree) for tree in trees_to(7)}


def composed_by_point(one, other):
    """Straight by point 23, over cuts that are taken knot by knot."""
    trees = trees_to(7)[:len(one)]
    first = {tree: Fraction(*weight) for tree, weight in zip(trees, one, strict=True)}
    second = {tree: Fraction(*weight) for tree, weight in zip(trees, other, strict=True)}
    second[None] = Fraction(1)
    sums = []
    for tree in trees:
        total = Fraction(0)
        for trunk, parts in CUTS[tree]:
            product = second[trunk]
            for part in parts:
                product = product * first[part]
            total = total + product
        sums.append(told(total))
    return sums


class Weighing(unittest.TestCase):
    def look(self, told_one, due):
        self.assertEqual(told_one, due)
        self.assertIs(type(told_one), list)
        for weight in told_one:
            self.assertTrue(is_fraction(weight), weight)


class Composed(Weighing):
    def test_known_weighings(self):
        # for the pair: the first one's pair, the other's knot times the first one's knot, the other's pair
        self.look(weighing_composed([(2, 1)], [(3, 1)]), [(5, 1)])
        self.look(weighing_composed([(2, 1), (5, 1)], [(3, 1), (7, 1)]), [(5, 1), (18, 1)])
        # the fork: 11 + 3 * 2 * 2 + 7 * 2 twice + 17; the chain: 13 + 3 * 5 + 7 * 2 + 19
        self.look(
            weighing_composed([(2, 1), (5, 1), (11, 1), (13, 1)], [(3, 1), (7, 1), (17, 1), (19, 1)]),
            [(5, 1), (18, 1), (68, 1), (61, 1)])
        self.look(weighing_composed([HALF, (1, 3)], [(-1, 2), (1, 6)]), [NO, (1, 4)])

    def test_tables_behind_one_another(self):
        for one in some_tables():
            for other in some_tables():
                due = table_weighing(table_behind(one, other), 7)
                for most, count in enumerate(WEIGHING_LENGTHS):
                    self.look(
                        weighing_composed(table_weighing(one, most), table_weighing(other, most)), due[:count])

    def test_told_tables_of_many_rows(self):
        twelve = tables_behind([table_of("fourth")] * 3)
        eight = tables_behind([table_of("heel")] * 4)
        self.look(
            weighing_composed(table_weighing(twelve, 7), table_weighing(eight, 7)),
            table_weighing(table_behind(twelve, eight), 7))

    def test_any_fractions_by_the_points_words(self):
        for one, other in zip(some_weighings(2, 9), some_weighings(3, 9), strict=True):
            self.look(weighing_composed(one, other), composed_by_point(one, other))
            self.look(weighing_composed(other, one), composed_by_point(other, one))

    def test_many_figures(self):
        for one, other in zip(some_weighings(4, BIG), some_weighings(5, BIG), strict=True):
            once = weighing_composed(one, other)
            self.look(once, composed_by_point(one, other))
            self.look(weighing_composed(once, once), composed_by_point(once, once))

    def test_the_first_one_is_done_first(self):
        middle = table_weighing(table_of("middle"), 4)
        heel = table_weighing(table_of("heel"), 4)
        self.assertNotEqual(weighing_composed(middle, heel), weighing_composed(heel, middle))

    def test_it_is_one_step_from_where_the_other_leads(self):
        chance = chances(6)
        start = some_start(chance, 2, 9)
        change = some_change(chance, 2, 4, 2, 9)
        begin = [[Fraction(*place)] + [Fraction(0)] * 6 for place in start]
        for one in some_tables()[:8]:
            for other in some_tables()[:8]:
                led = plain_step_on(other, change, plain_step_on(one, change, begin))
                weighing = weighing_composed(table_weighing(one, 6), table_weighing(other, 6))
                self.assertEqual(
                    grove_rows(change, start, weighing), [[told(number) for number in row] for row in led])

    def test_true_growth_behind_true_growth_takes_twice_the_time(self):
        for most in range(8):
            due = [told(Fraction(*weight) * 2 ** tree_knots(tree))
                   for tree, weight in zip(trees_to(most), true_weighing(most), strict=True)]
            self.look(weighing_composed(true_weighing(most), true_weighing(most)), due)

    def test_noughts_for_all_trees_change_nothing(self):
        for weighing in some_weighings(7, 99):
            still = [NO] * len(weighing)
            self.look(weighing_composed(weighing, still), weighing)
            self.look(weighing_composed(still, weighing), weighing)

    def test_three_behind_one_another(self):
        for one, two, three in zip(some_weighings(8, 9), some_weighings(9, 9), some_weighings(10, 9), strict=True):
            self.assertEqual(
                weighing_composed(weighing_composed(one, two), three),
                weighing_composed(one, weighing_composed(two, three)))

    def test_less_reach_is_the_beginning_of_more(self):
        chance = chances(11)
        one = some_weighing(chance, 7, 9)
        other = some_weighing(chance, 7, 9)
        whole = weighing_composed(one, other)
        for count in WEIGHING_LENGTHS:
            self.look(weighing_composed(one[:count], other[:count]), whole[:count])

    def test_told_lists_are_the_askers_own(self):
        for one, other in zip(some_weighings(12, 9), some_weighings(13, 9), strict=True):
            own_answer(self, weighing_composed, one, other)
        same = true_weighing(4)
        own_answer(self, weighing_composed, same, same)

    def test_no_weighing_for_either_one(self):
        for thing in no_weighings():
            with self.subTest(thing):
                refused(self, NoWeighing, weighing_composed, thing, true_weighing(3))
                refused(self, NoWeighing, weighing_composed, true_weighing(3), thing)
                refused(self, NoWeighing, weighing_composed, thing, thing)
                refused(self, NoWeighing, weighing_composed, thing, [])
                refused(self, NoWeighing, weighing_composed, [], thing)

    def test_unlike_reaches(self):
        for one in range(8):
            for other in range(8):
                if one != other:
                    refused(self, NotAlike, weighing_composed, true_weighing(one), true_weighing(other))


class Undone(Weighing):
    def test_known_weighings(self):
        self.look(weighing_undone([]), [])
        self.look(weighing_undone([(2, 3)]), [(-2, 3)])
        self.look(weighing_undone([(2, 1), (5, 1)]), [(-2, 1), (-1, 1)])
        self.look(weighing_undone(table_weighing(table_of("plain"), 3)), [LESS, ONE, LESS, LESS])
        self.look(weighing_undone([NO] * 17), [NO] * 17)

    def test_composed_on_either_side_it_has_0_for_all_trees(self):
        tables = [table_weighing(table, most) for table in some_tables() for most in range(8)]
        for weighing in tables + some_weighings(14, 9) + some_weighings(15, BIG):
            undone = weighing_undone(weighing)
            still = [NO] * len(weighing)
            self.look(weighing_composed(weighing, undone), still)
            self.look(weighing_composed(undone, weighing), still)
            self.look(composed_by_point(weighing, undone), still)

    def test_twice_leads_back(self):
        for weighing in some_weighings(16, 9):
            self.look(weighing_undone(weighing_undone(weighing)), weighing)

    def test_what_was_done_last_is_undone_first(self):
        for one, other in zip(some_weighings(17, 9), some_weighings(18, 9), strict=True):
            self.look(
                weighing_undone(weighing_composed(one, other)),
                weighing_composed(weighing_undone(other), weighing_undone(one)))

    def test_true_growth_is_undone_by_time_turned_back(self):
        for most in range(8):
            due = [((-1) ** tree_knots(tree), weight[1])
                   for tree, weight in zip(trees_to(most), true_weighing(most), strict=True)]
            self.look(weighing_undone(true_weighing(most)), due)

    def test_told_lists_are_the_askers_own(self):
        for weighing in some_weighings(19, 9):
            own_answer(self, weighing_undone, weighing)

    def test_no_weighing(self):
        for thing in no_weighings():
            with self.subTest(thing):
                refused(self, NoWeighing, weighing_undone, thing)


class Turned(Weighing):
    def test_known_weighings(self):
        weighing = [(2, 1), (3, 4), HALF, (-1, 3)]
        self.look(weighing_turned(weighing, NO), [NO] * 4)
        self.look(weighing_turned(weighing, ONE), weighing)
        self.look(weighing_turned(weighing, LESS), [(-2, 1), (3, 4), (-1, 2), (1, 3)])
        self.look(weighing_turned(weighing, (2, 3)), [(4, 3), (1, 3), (4, 27), (-8, 81)])
        self.look(weighing_turned([], (2, 3)), [])

    def test_part_as_often_as_there_are_knots(self):
        chance = chances(20)
        for weighing in some_weighings(21, 9) + some_weighings(22, BIG):
            for part in PARTS + [some_fraction(chance, BIG)]:
                due = [told(Fraction(*weight) * Fraction(*part) ** tree_knots(tree))
                       for tree, weight in zip(trees_to(7), weighing)]
                self.look(weighing_turned(weighing, part), due)

    def test_of_a_table_it_is_the_shrunk_one(self):
        for table in some_tables():
            for part in PARTS:
                for most in range(8):
                    self.look(
                        weighing_turned(table_weighing(table, most), part),
                        table_weighing(table_shrunk(table, part), most))

    def test_told_lists_are_the_askers_own(self):
        for weighing in some_weighings(23, 9):
            for part in (ONE, NO, (-2, 3)):
                own_answer(self, weighing_turned, weighing, part)

    def test_no_weighing(self):
        for thing in no_weighings():
            with self.subTest(thing):
                refused(self, NoWeighing, weighing_turned, thing, HALF)


class Mirrored(Weighing):
    def test_known_weighings(self):
        self.look(weighing_mirrored([]), [])
        # the plain rule mirrored reads where it leads: each tree weighs 1
        for most, count in enumerate(WEIGHING_LENGTHS):
            self.look(weighing_mirrored(table_weighing(table_of("plain"), most)), [ONE] * count)
        self.look(weighing_mirrored([(2, 1), (5, 1)]), [(2, 1), (-1, 1)])

    def test_it_is_undone_and_turned(self):
        for weighing in some_weighings(24, 9) + some_weighings(25, BIG):
            due = [told(Fraction(*weight) * (-1) ** tree_knots(tree))
                   for tree, weight in zip(trees_to(7), weighing_undone(weighing))]
            self.look(weighing_mirrored(weighing), due)
            self.look(weighing_mirrored(weighing), weighing_undone(weighing_turned(weighing, LESS)))

    def test_twice_leads_back(self):
        tables = [table_weighing(table, most) for table in some_tables() for most in (0, 1, 2, 5, 7)]
        for weighing in tables + some_weighings(26, 9) + some_weighings(27, BIG):
            self.look(weighing_mirrored(weighing_mirrored(weighing)), weighing)

    def test_true_growth_is_its_own_mirrored_one(self):
        for most in range(8):
            self.look(weighing_mirrored(true_weighing(most)), true_weighing(most))

    def test_the_order_stays(self):
        for table in some_tables() + [OF_ORDER_3, OF_ORDER_5, OF_ORDER_6]:
            weighing = table_weighing(table, 7)
            self.assertEqual(weighing_order(weighing_mirrored(weighing)), weighing_order(weighing))

    def test_told_lists_are_the_askers_own(self):
        for weighing in some_weighings(28, 9):
            own_answer(self, weighing_mirrored, weighing)

    def test_no_weighing(self):
        for thing in no_weighings():
            with self.subTest(thing):
                refused(self, NoWeighing, weighing_mirrored, thing)


class OwnMirroredOnes(Weighing):
    def look_at_own(self, weighing):
        self.look(weighing_mirrored(weighing), weighing)
        order = weighing_order(weighing)[0]
        reach = WEIGHING_LENGTHS.index(len(weighing))
        self.assertTrue(order == reach or order % 2 == 0, (order, reach))
        return order

    def test_a_half_step_and_one_by_what_it_is_mirrored(self):
        orders = []
        for table in some_tables() + [OF_ORDER_3, OF_ORDER_5, OF_ORDER_6]:
            for most in range(8):
                half = table_weighing(table_shrunk(table, HALF), most)
                mirrored = weighing_mirrored(half)
                orders.append(self.look_at_own(weighing_composed(half, mirrored)))
                orders.append(self.look_at_own(weighing_composed(mirrored, half)))
        self.assertEqual(sorted(set(orders)), [0, 1, 2, 3, 4, 5, 6])

    def test_the_order_is_the_next_even_one(self):
        # an odd order rises by one at least
        for table, due in ((table_of("plain"), 2), (table_of("third"), 4), (OF_ORDER_3, 4), (OF_ORDER_5, 6)):
            half = table_weighing(table_shrunk(table, HALF), 7)
            self.assertEqual(self.look_at_own(weighing_composed(half, weighing_mirrored(half))), due)

    def test_of_any_fractions(self):
        for weighing in some_weighings(29, 9) + some_weighings(30, BIG):
            half = weighing_turned(weighing, HALF)
            self.look_at_own(weighing_composed(half, weighing_mirrored(half)))

    def test_of_such_ones_again(self):
        for name in NAMES:
            half = table_weighing(table_shrunk(table_of(name), HALF), 7)
            own = weighing_composed(half, weighing_mirrored(half))
            for part in (HALF, LESS, (2, 3)):
                outer = weighing_turned(own, part)
                self.look_at_own(outer)
                self.look_at_own(weighing_composed(weighing_composed(outer, own), outer))


if __name__ == "__main__":
    unittest.main()
