import unittest
from fractions import Fraction

from stepgrove.changes import bent_at, is_change
from stepgrove.errors import NoTable, NoTree, NoWeighing
from stepgrove.groves import grove_rows
from stepgrove.growth import growth_rows
from stepgrove.joins import table_behind, table_mixed, table_sharpened
from stepgrove.orders import parted_weighings, parting_change, table_order, weighing_order
from stepgrove.steps import step_rows
from stepgrove.tables import table_of
from stepgrove.trees import tree_density, tree_knots, tree_turns, trees_of, trees_to
from stepgrove.weights import table_weight, table_weighing, true_weighing

from plain import chances, plain_order, plain_parting, some_start, some_table, tables_behind, told
from things import (
    OF_ORDER_3, OF_ORDER_5, OF_ORDER_6, WEIGHING_LENGTHS, good_tables, no_tables, no_trees, no_weighings, own_answer,
    refused,
)

NO = (0, 1)
ONE = (1, 1)
HALF = (1, 2)
BIG = 10 ** 12 - 11
NAMES = ["plain", "middle", "heel", "third", "fourth"]

KNOT = ()
PAIR = ((),)
FORK = ((), ())
CHAIN = (((),),)

NAMED_ORDERS = [
    ("plain", (1, PAIR)),
    ("middle", (2, FORK)),
    ("heel", (2, FORK)),
    ("third", (3, (KNOT,) * 3)),
    ("fourth", (4, (KNOT,) * 4)),
]


def fourth_like(third, fourth):
    """Four rows that read where fourth's do, with other fractions: rows 2 and 3 as told."""
    return ([[], [HALF], third, fourth], [(1, 6), (1, 3), (1, 3), (1, 6)])


# each misses at another tree of its count, those ahead of it being true
MADE_TABLES = [
    # the chain of three knots alone, the fork being true
    (([[], [(2, 3)]], [(1, 4), (3, 4)]), (2, CHAIN)),
    (fourth_like([NO, HALF], [HALF, HALF, NO]), (2, CHAIN)),
    # a knot with a chain of two and a knot
    (fourth_like([(1, 4), (1, 4)], [(-1, 2), ONE, HALF]), (3, (PAIR, KNOT))),
    # the chain of four knots alone
    (OF_ORDER_3, (3, (CHAIN,))),
]

def total(row):
    return sum(Fraction(*part) for part in row)


def trees_told():
    return [(tree, tree_knots(tree), tree_density(tree)) for tree in trees_to(6)]


class TableOrder(unittest.TestCase):
    def look(self, table, due):
        answer = table_order(table)
        self.assertEqual(answer, due, table)
        self.assertEqual([type(answer), type(answer[0])], [tuple, int])

    def look_by_all_ways(self, table):
        self.look(table, plain_order(table, trees_told(), 6))

    def test_named_tables(self):
        for name, due in NAMED_ORDERS:
            self.look(table_of(name), due)
            self.look_by_all_ways(table_of(name))

    def test_tables_that_miss_at_the_first_knot(self):
        missing = [table for table in good_tables() if total(table[1]) != 1]
        self.assertGreater(len(missing), 20)
        for table in missing:
            self.look(table, (0, KNOT))
        self.look(([[], [HALF]], [HALF, (1, 3)]), (0, KNOT))
        self.look(([[]], [NO]), (0, KNOT))
        self.look(([[]], [(-1, 1)]), (0, KNOT))
        self.look(([[], [HALF]], [NO, NO]), (0, KNOT))

    def test_tables_that_miss_at_two_knots(self):
        self.look(([[], [HALF]], [HALF, HALF]), (1, PAIR))
        self.look(([[], [NO]], [HALF, HALF]), (1, PAIR))
        self.look(([[], [HALF]], [(2, 1), (-1, 1)]), (1, PAIR))

    def test_the_first_tree_that_misses_is_told(self):
        for table, due in MADE_TABLES:
            self.look(table, due)
            self.look_by_all_ways(table)
            missed = [tree for tree in trees_of(due[0] + 1) if table_weight(table, tree) != (1, tree_density(tree))]
            self.assertEqual(due[1], missed[0])

    def test_any_tables_of_small_fractions(self):
        chance = chances(1)
        for rows in (1, 2, 3, 4, 5):
            for _ in range(20):
                table = some_table(chance, rows, 4)
                self.look_by_all_ways(table)
                # With a last that sums to 1 the first knot is met.
                table[1][-1] = told(1 - total(table[1][:-1]))
                self.look_by_all_ways(table)
                self.assertGreater(table_order(table)[0], 0)

    def test_a_small_change_of_a_table_is_seen(self):
        for name, due in NAMED_ORDERS:
            rows, last = table_of(name)
            for k in range(len(last)):
                nudged = told(Fraction(*last[k]) + Fraction(1, 10 ** 12))
                self.look((rows, last[:k] + [nudged] + last[k + 1:]), (0, KNOT))
            if len(rows) > 1:
                nudged = told(Fraction(*rows[-1][0]) + Fraction(1, 10 ** 12))
                self.look((rows[:-1] + [[nudged] + rows[-1][1:]], last), (1, PAIR))

    def test_six_rows_and_seven(self):
        self.look_by_all_ways(OF_ORDER_5)
        self.assertEqual(table_order(OF_ORDER_5)[0], 5)
        self.look(OF_ORDER_6, (6, None))
        chance = chances(2)
        for rows in (6, 7):
            self.look(some_table(chance, rows, 9), (0, KNOT))
            # a table that is read by nothing beside it changes no weight
            padded = table_mixed([table_of("third"), some_table(chance, rows - 3, 9)], [ONE, NO])
            self.look(padded, (3, (KNOT,) * 3))

    def test_six_at_most(self):
        self.look(OF_ORDER_6, (6, None))
        self.look(table_sharpened(OF_ORDER_6, 6), (6, None))
        self.assertNotEqual(table_weighing(OF_ORDER_6, 7), true_weighing(7))
        self.look(table_sharpened(OF_ORDER_5, 5), (6, None))
        for part in (NO, ONE, HALF):
            rest = (part[1] - part[0], part[1])
            self.look(table_mixed([OF_ORDER_6, OF_ORDER_6], [part, rest]), (6, None))

    def test_told_tables_of_more_rows(self):
        chance = chances(3)
        fourth = table_of("fourth")
        fifth = table_sharpened(fourth, 4)
        sixth = table_sharpened(fifth, 5)
        self.assertEqual([len(fifth[0]), len(sixth[0])], [12, 36])
        self.assertEqual(table_order(fifth)[0], 5)
        self.look(sixth, (6, None))
        self.look(table_behind(sixth, fourth), (0, KNOT))
        self.look(tables_behind([table_of("plain")] * 40), (0, KNOT))
        self.look(table_mixed([table_of("middle")] * 20, [(1, 20)] * 20), (2, FORK))
        self.look(tables_behind([some_table(chance, 5, BIG)] * 8), (0, KNOT))

    def test_what_is_told_is_the_same_as_of_the_weighing(self):
        for table in [table_of(name) for name in NAMES] + [made[0] for made in MADE_TABLES] + [OF_ORDER_5, OF_ORDER_6]:
            self.assertEqual(weighing_order(table_weighing(table, 6)), table_order(table))

    def test_told_things_are_the_askers_own(self):
        for name in NAMES:
            own_answer(self, table_order, table_of(name))

    def test_refusals(self):
        for thing in no_tables():
            with self.subTest(thing):
                refused(self, NoTable, table_order, thing)


class WeighingOrder(unittest.TestCase):
    def look(self, weighing, due):
        answer = weighing_order(weighing)
        self.assertEqual(answer, due, weighing)
        self.assertEqual([type(answer), type(answer[0])], [tuple, int])

    def test_reach_0(self):
        self.look([], (0, None))

    def test_true_weighings(self):
        for reach in range(8):
            self.look(true_weighing(reach), (reach, None))

    def test_one_weight_changed(self):
        for reach in range(1, 8):
            for k, tree in enumerate(trees_to(reach)):
                for weight in (NO, (2, 1), (-1, tree_density(tree))):
                    weighing = true_weighing(reach)
                    weighing[k] = weight
                    self.look(weighing, (tree_knots(tree) - 1, tree))

    def test_several_weights_changed(self):
        trees = trees_to(7)
        for k, tree in enumerate(trees):
            weighing = true_weighing(7)[:k] + [NO] * (85 - k)
            self.look(weighing, (tree_knots(tree) - 1, tree))
            self.look(true_weighing(7)[:k] + [NO] + [(5, 3)] * (84 - k), (tree_knots(tree) - 1, tree))

    def test_weighings_of_tables(self):
        for name, due in NAMED_ORDERS:
            for reach in range(8):
                self.look(table_weighing(table_of(name), reach), due if reach > due[0] else (reach, None))
        order, tree = weighing_order(table_weighing(OF_ORDER_6, 7))
        self.assertEqual(order, 6)
        missed = [tree for tree in trees_of(7) if table_weight(OF_ORDER_6, tree) != (1, tree_density(tree))]
        self.assertEqual(tree, missed[0])

    def test_any_fractions(self):
        chance = chances(4)
        for reach in range(1, 8):
            self.look(some_start(chance, WEIGHING_LENGTHS[reach], BIG), (0, KNOT))
            self.look([NO] * WEIGHING_LENGTHS[reach], (0, KNOT))

    def test_told_things_are_the_askers_own(self):
        for reach in range(8):
            own_answer(self, weighing_order, true_weighing(reach))
            own_answer(self, weighing_order, table_weighing(table_of("heel"), reach))

    def test_refusals(self):
        for thing in no_weighings():
            with self.subTest(thing):
                refused(self, NoWeighing, weighing_order, thing)


class PartingChange(unittest.TestCase):
    def test_known_changes(self):
        self.assertEqual(parting_change(KNOT), ([[((0,), ONE)]], [NO]))
        self.assertEqual(parting_change(PAIR), ([[((0, 1), ONE)], [((0, 0), ONE)]], [NO, NO]))
        self.assertEqual(
            parting_change(CHAIN), ([[((0, 1, 0), ONE)], [((0, 0, 1), ONE)], [((0, 0, 0), ONE)]], [NO] * 3))
        self.assertEqual(
            parting_change(FORK), ([[((0, 1, 1), ONE)], [((0, 0, 0), ONE)], [((0, 0, 0), ONE)]], [NO] * 3))
        # the first bough's knots come ahead of the second bough
        self.assertEqual(parting_change((PAIR, KNOT)), (
            [[((0, 1, 0, 1), ONE)], [((0, 0, 1, 0), ONE)], [((0,) * 4, ONE)], [((0,) * 4, ONE)]], [NO] * 4))
        self.assertEqual(parting_change((FORK, PAIR)), (
            [[((0, 1, 0, 0, 1, 0), ONE)], [((0, 0, 1, 1, 0, 0), ONE)], [((0,) * 6, ONE)], [((0,) * 6, ONE)],
             [((0, 0, 0, 0, 0, 1), ONE)], [((0,) * 6, ONE)]], [NO] * 6))
        self.assertEqual(parting_change((CHAIN, PAIR, KNOT)), (
            [[((0, 1, 0, 0, 1, 0, 1), ONE)], [((0, 0, 1, 0, 0, 0, 0), ONE)], [((0, 0, 0, 1, 0, 0, 0), ONE)],
             [((0,) * 7, ONE)], [((0, 0, 0, 0, 0, 1, 0), ONE)], [((0,) * 7, ONE)], [((0,) * 7, ONE)]], [NO] * 7))

    def test_every_tree(self):
        for tree in trees_to(7):
            answer = parting_change(tree)
            self.assertEqual(answer, plain_parting(tree))
            self.assertEqual([type(thing) for thing in (answer,) + answer], [tuple, list, list])
            self.assertTrue(is_change(answer[0]))
            self.assertEqual(len(answer[0]), tree_knots(tree))

    def test_bent_by_its_tree_it_shows_the_turns_alone(self):
        for tree in trees_to(5):
            change, start = parting_change(tree)
            for other in trees_to(5):
                self.assertEqual(bent_at(change, other, start)[0], (tree_turns(tree), 1) if other == tree else NO)

    def test_steps_there_show_the_weight_alone(self):
        chance = chances(5)
        tables = [table_of(name) for name in NAMES] + [some_table(chance, rows, 9) for rows in (1, 3, 5, 7)]
        tables.append(table_sharpened(table_of("fourth"), 4))
        for tree in trees_to(7):
            change, start = parting_change(tree)
            for table in tables:
                due = [NO] * 8
                due[tree_knots(tree)] = table_weight(table, tree)
                self.assertEqual(step_rows(table, change, start, 7)[0], due)

    def test_growth_there_shows_the_true_weight_alone(self):
        for tree in trees_to(7):
            change, start = parting_change(tree)
            due = [NO] * 8
            due[tree_knots(tree)] = (1, tree_density(tree))
            self.assertEqual(growth_rows(change, start, 7)[0], due)

    def test_the_told_tree_parts_a_table_from_the_growth(self):
        for table in [table_of(name) for name in NAMES] + [made[0] for made in MADE_TABLES] + [OF_ORDER_5]:
            order, tree = table_order(table)
            change, start = parting_change(tree)
            rows = step_rows(table, change, start, order + 1)
            grown = growth_rows(change, start, order + 1)
            self.assertEqual([row[:-1] for row in rows], [row[:-1] for row in grown])
            self.assertNotEqual(rows[0][order + 1], grown[0][order + 1])

    def test_somewhat_more_knots_are_not_refused(self):
        for tree in ((KNOT,) * 9, (PAIR,) * 4, ((CHAIN, CHAIN), KNOT)):
            self.assertEqual(parting_change(tree), plain_parting(tree))

    def test_told_lists_are_the_askers_own(self):
        for tree in trees_to(5):
            own_answer(self, parting_change, tree)

    def test_refusals(self):
        for thing in no_trees():
            with self.subTest(thing):
                refused(self, NoTree, parting_change, thing)


class PartedWeighings(unittest.TestCase):
    def look(self, one, other, tree):
        due = None
        if tree is not None:
            due = (tree,) + plain_parting(tree)
        for answer in (parted_weighings(one, other), parted_weighings(other, one)):
            self.assertEqual(answer, due)
            if tree is not None:
                self.assertEqual([type(thing) for thing in (answer,) + answer], [tuple, tuple, list, list])

    def test_alike_weighings(self):
        chance = chances(6)
        for reach in range(8):
            self.look(true_weighing(reach), true_weighing(reach), None)
            weighing = some_start(chance, WEIGHING_LENGTHS[reach], 9)
            self.look(weighing, weighing, None)
            self.look(weighing, list(weighing), None)

    def test_alike_as_far_as_both_reach(self):
        weighing = some_start(chances(7), 85, 9)
        for count in WEIGHING_LENGTHS:
            for other in WEIGHING_LENGTHS:
                self.look(weighing[:count], weighing[:other], None)

    def test_reach_0(self):
        for reach in range(8):
            self.look([], true_weighing(reach), None)
            self.look([], [(7, 3)] * WEIGHING_LENGTHS[reach], None)

    def test_unlike_at_the_first_tree(self):
        for count in WEIGHING_LENGTHS[1:]:
            for other in WEIGHING_LENGTHS[1:]:
                self.look([HALF] * count, [NO] * other, KNOT)
                self.look([HALF] * count, [ONE] + [HALF] * (other - 1), KNOT)

    def test_unlike_at_a_later_tree(self):
        for reach in range(1, 8):
            for k, tree in enumerate(trees_to(reach)):
                for weight in (NO, (5, 3)):
                    other = true_weighing(reach)
                    other[k] = weight
                    self.look(true_weighing(reach), other, tree)
                    self.look(true_weighing(7), other, tree)

    def test_the_first_of_several_is_told(self):
        for k, tree in enumerate(trees_to(7)):
            self.look(true_weighing(7), true_weighing(7)[:k] + [(-1, 3)] * (85 - k), tree)

    def test_unlike_beyond_the_lesser_reach_alone(self):
        for reach in range(7):
            count = WEIGHING_LENGTHS[reach]
            other = true_weighing(reach) + [(-1, 3)] * (85 - count)
            self.look(true_weighing(reach), other, None)
            self.look(true_weighing(reach + 1), other, trees_of(reach + 1)[0])

    def test_tables(self):
        one = table_weighing(table_of("middle"), 7)
        other = table_weighing(table_of("heel"), 5)
        self.look(one, other, FORK)
        self.look(one[:2], other, None)
        self.look(table_weighing(OF_ORDER_6, 6), true_weighing(7), None)

    def test_rows_part_there_in_just_that_power(self):
        pairs = [(table_of("middle"), table_of("heel")), (table_of("third"), table_of("fourth"))]
        pairs.append((OF_ORDER_5, OF_ORDER_6))
        for one, other in pairs:
            tree, change, start = parted_weighings(table_weighing(one, 6), table_weighing(other, 6))
            left = step_rows(one, change, start, 7)[0]
            right = step_rows(other, change, start, 7)[0]
            self.assertEqual([k for k in range(8) if left[k] != right[k]], [tree_knots(tree)])
            self.assertEqual(grove_rows(change, start, table_weighing(one, 7))[0], left)

    def test_told_things_are_the_askers_own(self):
        for reach in range(1, 8):
            own_answer(self, parted_weighings, true_weighing(7), true_weighing(reach))
            own_answer(self, parted_weighings, true_weighing(7), [HALF] * WEIGHING_LENGTHS[reach])
            own_answer(self, parted_weighings, true_weighing(reach), table_weighing(table_of("heel"), reach))

    def test_refusals(self):
        for thing in no_weighings():
            with self.subTest(thing):
                refused(self, NoWeighing, parted_weighings, thing, true_weighing(3))
                refused(self, NoWeighing, parted_weighings, true_weighing(3), thing)
                refused(self, NoWeighing, parted_weighings, thing, [])
                refused(self, NoWeighing, parted_weighings, [], thing)
                refused(self, NoWeighing, parted_weighings, thing, thing)


if __name__ == "__main__":
    unittest.main()
