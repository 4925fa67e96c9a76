import math
import unittest
from fractions import Fraction

from stepgrove.changes import bent_change, is_change
from stepgrove.errors import NoChange, NoWeighing
from stepgrove.follows import flow_weighing, followed_changes, followed_weighing
from stepgrove.fracs import is_fraction
from stepgrove.growth import growth_rows
from stepgrove.steps import step_rows
from stepgrove.tables import table_of
from stepgrove.trees import tree_knots, tree_turns, trees_of, trees_to
from stepgrove.weighings import weighing_composed, weighing_turned, weighing_undone
from stepgrove.weights import table_weighing, true_weighing

from plain import (
    chances, plain_at, plain_bent, plain_parting, plain_poly, plain_slope, plain_sum, plain_times, some_change,
    some_start, some_table, some_tables, some_weighing, some_weighings, tables_behind, ties_by_knots, told, told_poly,
)
from things import OF_ORDER_5, OF_ORDER_6, WEIGHING_LENGTHS, no_changes, no_weighings, own_answer, refused

NO = (0, 1)
ONE = (1, 1)
HALF = (1, 2)
BIG = 10 ** 12 - 11
NAMES = ["plain", "middle", "heel", "third", "fourth"]
TIES = {tree: ties_by_knots(tree) for tree in trees_to(7)}

# x moves by y, y by x times y
PLAIN = [[((0, 1), ONE)], [((1, 1), ONE)]]
# x moves by x times x
SQUARE = [[((2,), ONE)]]


def flow_by_point(numbers):
    """Straight by point 25, over ties that are taken knot by knot: all D_j of all trees, one j behind another."""
    trees = trees_to(7)[:len(numbers)]
    given = {tree: Fraction(*number) for tree, number in zip(trees, numbers, strict=True)}
    moves = dict(given)
    total = {tree: Fraction(0) for tree in trees}
    for j in range(1, 11):
        for tree in trees:
            total[tree] = total[tree] + moves[tree] / math.factorial(j)
        moves = {tree: sum((moves[trunk] * given[part] for trunk, part in TIES[tree]), Fraction(0)) for tree in trees}
    return [told(total[tree]) for tree in trees]


def changes_by_point(change, numbers):
    """Straight by point 26, of the numbers that are followed."""
    polys = [plain_poly(some) for some in change]
    changes = []
    left = list(numbers)
    for knots in range(1, WEIGHING_LENGTHS.index(len(numbers)) + 1):
        sums = [{} for _ in change]
        for tree in trees_of(knots):
            share = {(0,) * len(change): Fraction(*left.pop(0)) / tree_turns(tree)}
            sums = [plain_sum(total, plain_times(some, share)) for total, some in zip(sums, plain_bent(polys, tree))]
        changes.append([told_poly(some) for some in sums])
    return changes


def moved_truly(changes, start):
    """Where one comes that moves with the speeds f1 + f2 h + .. for the time h, power by power.

    In h times the time it moves with h f1 + h h f2 + .. for the time 1. How fast a sum in h of polynomials moves along
    is again such a sum; taken so j times, through 1 times 2 .. times j, they are the growth.
    """
    reach = len(changes)
    speeds = [[plain_poly(some) for some in change] for change in changes]
    rows = []
    for unknown in range(len(start)):
        powers = tuple(1 if k == unknown else 0 for k in range(len(start)))
        moves = [{powers: Fraction(1)}] + [{} for _ in range(reach)]
        row = [Fraction(0)] * (reach + 1)
        for j in range(reach + 1):
            worths = [plain_at(some, [Fraction(*place) for place in start]) for some in moves]
            row = [total + worth / math.factorial(j) for total, worth in zip(row, worths)]
            moves = moved_along(moves, speeds)
        rows.append([told(number) for number in row])
    return rows


def moved_along(moves, speeds):
    along = [{} for _ in moves]
    for power, some in enumerate(moves):
        for k, change in enumerate(speeds, start=1):
            if power + k < len(moves):
                for unknown, speed in enumerate(change):
                    product = plain_times(plain_slope(some, unknown), speed)
                    along[power + k] = plain_sum(along[power + k], product)
    return along


class Flow(unittest.TestCase):
    def look(self, weighing, due):
        self.assertEqual(weighing, due)
        self.assertIs(type(weighing), list)
        for weight in weighing:
            self.assertTrue(is_fraction(weight), weight)


class FlowWeighing(Flow):
    def test_known_weighings(self):
        self.look(flow_weighing([]), [])
        self.look(flow_weighing([(3, 5)]), [(3, 5)])
        # the pair: 5 + 2 * 2 / 2
        self.look(flow_weighing([(2, 1), (5, 1)]), [(2, 1), (7, 1)])
        # the fork: 11 + (5 * 2) twice / 2 + (2 * 2 * 2) twice / 6; the chain: 13 + (2 * 5 + 5 * 2) / 2 + 2 * 2 * 2 / 6
        self.look(
            flow_weighing([(2, 1), (5, 1), (11, 1), (13, 1)]), [(2, 1), (7, 1), (71, 3), (73, 3)])

    def test_one_for_the_single_knot_flows_into_the_true_weighing(self):
        for most, count in enumerate(WEIGHING_LENGTHS):
            self.look(flow_weighing(([ONE] + [NO] * 84)[:count]), true_weighing(most))

    def test_any_fractions_by_the_points_words(self):
        for numbers in some_weighings(2, 9) + some_weighings(3, BIG):
            self.look(flow_weighing(numbers), flow_by_point(numbers))

    def test_each_tree_by_itself(self):
        for place in range(85):
            numbers = [NO] * 85
            numbers[place] = (-5, 3)
            self.look(flow_weighing(numbers), flow_by_point(numbers))

    def test_noughts(self):
        for count in WEIGHING_LENGTHS:
            self.look(flow_weighing([NO] * count), [NO] * count)

    def test_twice_the_numbers_lead_as_far_as_twice_the_flow(self):
        for numbers in some_weighings(4, 9):
            twice = [told(2 * Fraction(*number)) for number in numbers]
            flow = flow_weighing(numbers)
            self.look(flow_weighing(twice), weighing_composed(flow, flow))

    def test_less_reach_is_the_beginning_of_more(self):
        numbers = some_weighing(chances(5), 7, 9)
        for count in WEIGHING_LENGTHS:
            self.look(flow_weighing(numbers[:count]), flow_weighing(numbers)[:count])

    def test_told_lists_are_the_askers_own(self):
        for numbers in some_weighings(6, 9):
            own_answer(self, flow_weighing, numbers)

    def test_no_weighing(self):
        for thing in no_weighings():
            with self.subTest(thing):
                refused(self, NoWeighing, flow_weighing, thing)


class FollowedWeighing(Flow):
    def test_known_numbers(self):
        self.look(followed_weighing([]), [])
        self.look(followed_weighing([(3, 5)]), [(3, 5)])
        self.look(followed_weighing([(2, 1), (7, 1), (71, 3), (73, 3)]), [(2, 1), (5, 1), (11, 1), (13, 1)])
        self.look(followed_weighing(table_weighing(table_of("plain"), 3)), [ONE, (-1, 2), (1, 6), (1, 3)])
        self.look(followed_weighing(table_weighing(table_of("middle"), 3)), [ONE, NO, (-1, 12), (-1, 6)])

    def test_it_leads_back_from_the_flow(self):
        for numbers in some_weighings(7, 9) + some_weighings(8, BIG):
            self.look(followed_weighing(flow_weighing(numbers)), numbers)

    def test_it_flows_into_what_was_handed_in(self):
        for weighing in some_weighings(9, 9) + some_weighings(10, BIG):
            numbers = followed_weighing(weighing)
            self.look(flow_weighing(numbers), weighing)
            self.look(flow_by_point(numbers), weighing)
        for table in some_tables() + [tables_behind([table_of("fourth")] * 10)]:
            for most in range(8):
                weighing = table_weighing(table, most)
                self.look(flow_weighing(followed_weighing(weighing)), weighing)

    def test_the_true_weighing_is_followed_by_the_single_knot_alone(self):
        for most, count in enumerate(WEIGHING_LENGTHS):
            self.look(followed_weighing(true_weighing(most)), ([ONE] + [NO] * 84)[:count])

    def test_up_to_the_order_all_but_the_single_knot_are_0(self):
        for table, order in [(table_of("third"), 3), (table_of("fourth"), 4), (OF_ORDER_5, 5), (OF_ORDER_6, 6)]:
            numbers = followed_weighing(table_weighing(table, 7))
            count = WEIGHING_LENGTHS[order]
            self.assertEqual(numbers[:count], [ONE] + [NO] * (count - 1))
            self.assertNotEqual(numbers[count:WEIGHING_LENGTHS[order + 1]], [NO] * len(trees_of(order + 1)))

    def test_undone_it_is_followed_the_other_way(self):
        for weighing in some_weighings(11, 9):
            due = [(-top, bottom) for top, bottom in followed_weighing(weighing)]
            self.look(followed_weighing(weighing_undone(weighing)), due)

    def test_turned_it_is_followed_by_turned_numbers(self):
        for weighing in some_weighings(12, 9):
            for part in ((-1, 1), (2, 3)):
                due = [told(Fraction(*number) * Fraction(*part) ** tree_knots(tree))
                       for tree, number in zip(trees_to(7), followed_weighing(weighing))]
                self.look(followed_weighing(weighing_turned(weighing, part)), due)

    def test_told_lists_are_the_askers_own(self):
        for weighing in some_weighings(13, 9):
            own_answer(self, followed_weighing, weighing)

    def test_no_weighing(self):
        for thing in no_weighings():
            with self.subTest(thing):
                refused(self, NoWeighing, followed_weighing, thing)


class FollowedChanges(unittest.TestCase):
    def look(self, change, weighing):
        changes = followed_changes(change, weighing)
        self.assertEqual(changes, changes_by_point(change, followed_weighing(weighing)), (change, weighing))
        self.assertEqual(len(changes), WEIGHING_LENGTHS.index(len(weighing)))
        for told_one in changes:
            self.assertTrue(is_change(told_one))
            self.assertEqual(len(told_one), len(change))
        return changes

    def test_known_changes(self):
        # x x bent by trees of 1, 2, 3, 3 knots is x x, 2 x x x, 2 x x x x, 4 x x x x; the fork has 2 turns
        self.assertEqual(
            followed_changes(SQUARE, table_weighing(table_of("plain"), 3)),
            [[[((2,), ONE)]], [[((3,), (-1, 1))]], [[((4,), (3, 2))]]])
        self.assertEqual(
            followed_changes([[((1,), ONE)]], table_weighing(table_of("plain"), 4)),
            [[[((1,), ONE)]], [[((1,), (-1, 2))]], [[((1,), (1, 3))]], [[((1,), (-1, 4))]]])

    def test_reach_0_tells_none(self):
        for change in (SQUARE, PLAIN, [[]], [[], [], []]):
            self.assertEqual(followed_changes(change, []), [])

    def test_reach_1_tells_the_change_times_the_weight(self):
        for weight in (ONE, (-2, 3), (7, 1)):
            self.assertEqual(followed_changes(PLAIN, [weight]), [[[((0, 1), weight)], [((1, 1), weight)]]])
        self.assertEqual(followed_changes(PLAIN, [NO]), [[[], []]])

    def test_the_true_weighing_is_followed_by_the_change_alone(self):
        chance = chances(14)
        for unknowns in (1, 2, 3):
            for greatest in (0, 1, 2):
                change = some_change(chance, unknowns, 4, greatest, 99)
                for most in range(8):
                    due = ([change] + [[[] for _ in change]] * 6)[:most]
                    self.assertEqual(followed_changes(change, true_weighing(most)), due)

    def test_any_fractions_by_the_points_words(self):
        chance = chances(15)
        for unknowns, reaches in ((1, range(8)), (2, range(6)), (3, range(5))):
            for reach in reaches:
                for greatest in (0, 1, 2):
                    change = some_change(chance, unknowns, 3, greatest, 9)
                    self.look(change, some_weighing(chance, reach, 9))

    def test_six_knots_and_three_unknowns(self):
        chance = chances(16)
        self.look(some_change(chance, 3, 2, 2, 9), some_weighing(chance, 6, 9))

    def test_many_figures(self):
        chance = chances(17)
        self.look(some_change(chance, 1, 3, 2, BIG), some_weighing(chance, 6, BIG))
        self.look(some_change(chance, 2, 4, 2, BIG), some_weighing(chance, 4, BIG))
        self.look(some_change(chance, 3, 6, 2, BIG), some_weighing(chance, 3, BIG))

    def test_bent_changes_summed(self):
        chance = chances(18)
        change = some_change(chance, 2, 6, 2, 9)
        for place, tree in enumerate(trees_to(5)):
            numbers = [NO] * 17
            numbers[place] = (-5, 3)
            due = [[[], []] for _ in range(5)]
            due[tree_knots(tree) - 1] = [
                [(powers, told(Fraction(-5, 3) / tree_turns(tree) * Fraction(*part))) for powers, part in some]
                for some in bent_change(change, tree)]
            self.assertEqual(followed_changes(change, flow_weighing(numbers)), due)

    def test_moving_truly_by_them_leads_where_the_step_leads(self):
        chance = chances(19)
        for table in some_tables():
            for unknowns, reach in ((1, 7), (2, 5), (3, 3)):
                change = some_change(chance, unknowns, 3, 2, 9)
                start = some_start(chance, unknowns, 9)
                changes = followed_changes(change, table_weighing(table, reach))
                self.assertEqual(moved_truly(changes, start), step_rows(table, change, start, reach))

    def test_moving_truly_by_the_change_itself_is_growth(self):
        chance = chances(20)
        change = some_change(chance, 2, 4, 2, 9)
        start = some_start(chance, 2, 9)
        self.assertEqual(moved_truly([change] + [[[], []]] * 5, start), growth_rows(change, start, 6))

    def test_parting_changes(self):
        chance = chances(21)
        for tree in trees_to(5):
            self.look(plain_parting(tree)[0], some_weighing(chance, tree_knots(tree), 9))

    def test_moving_truly_by_what_parting_changes_follow(self):
        chance = chances(24)
        for tree in trees_to(5) + trees_of(6)[::6] + trees_of(7)[::12]:
            change, start = plain_parting(tree)
            for table in (table_of("fourth"), some_table(chance, 3, 9)):
                changes = followed_changes(change, table_weighing(table, tree_knots(tree)))
                self.assertEqual(moved_truly(changes, start), step_rows(table, change, start, tree_knots(tree)))

    def test_what_stands_still_or_moves_evenly(self):
        weighing = some_weighing(chances(22), 5, 9)
        self.assertEqual(followed_changes([[], []], weighing), [[[], []]] * 5)
        self.assertEqual(followed_changes([[((0,), (3, 7))]], weighing), [
            [[((0,), told(Fraction(3, 7) * Fraction(*weighing[0])))]]] + [[[]]] * 4)

    def test_less_reach_is_the_beginning_of_more(self):
        weighing = some_weighing(chances(23), 6, 9)
        changes = followed_changes(PLAIN, weighing)
        for reach, count in enumerate(WEIGHING_LENGTHS[:7]):
            self.assertEqual(followed_changes(PLAIN, weighing[:count]), changes[:reach])

    def test_told_changes_are_the_askers_own(self):
        for most in range(7):
            own_answer(self, followed_changes, PLAIN, table_weighing(table_of("heel"), most))
            own_answer(self, followed_changes, PLAIN, true_weighing(most))
            own_answer(self, followed_changes, [[], []], true_weighing(most))

    def test_no_change(self):
        for thing in no_changes():
            with self.subTest(thing):
                refused(self, NoChange, followed_changes, thing, true_weighing(3))
                refused(self, NoChange, followed_changes, thing, [])

    def test_no_weighing(self):
        for thing in no_weighings():
            with self.subTest(thing):
                refused(self, NoWeighing, followed_changes, SQUARE, thing)
                refused(self, NoWeighing, followed_changes, PLAIN, thing)

    def test_no_change_is_refused_first(self):
        for thing in no_changes():
            for weighing in (None, [HALF] * 3, (), [NO, (2, 4)]):
                refused(self, NoChange, followed_changes, thing, weighing)


if __name__ == "__main__":
    unittest.main()
