import unittest
from fractions import Fraction

from stepgrove.changes import bent_at, change_speeds
from stepgrove.errors import NoChange, NoStart, NoWeighing
from stepgrove.groves import grove_rows
from stepgrove.growth import growth_rows
from stepgrove.steps import step_rows
from stepgrove.tables import table_of
from stepgrove.trees import tree_knots, tree_turns, trees_to
from stepgrove.weights import table_weighing, true_weighing

from plain import (
    chances, plain_grove, plain_parting, some_change, some_start, some_table, tables_behind, told,
)
from things import WEIGHING_LENGTHS, no_changes, no_starts, no_weighings, own_answer, refused

NO = (0, 1)
ONE = (1, 1)
HALF = (1, 2)
BIG = 10 ** 12 - 11
NAMES = ["plain", "middle", "heel", "third", "fourth"]

# x moves by y, y by x times y
PLAIN = [[((0, 1), ONE)], [((1, 1), ONE)]]
START = [(2, 1), (1, 3)]
# x moves by x times x
SQUARE = [[((2,), ONE)]]


def by_point(change, start, weighing):
    trees = trees_to(7)[:len(weighing)]
    return plain_grove(change, start, [
        (tree, tree_knots(tree), tree_turns(tree), weight) for tree, weight in zip(trees, weighing, strict=True)])


def weighing_of(chance, most, figures):
    return some_start(chance, WEIGHING_LENGTHS[most], figures)


class GroveRows(unittest.TestCase):
    def look(self, change, start, weighing):
        rows = grove_rows(change, start, weighing)
        reach = WEIGHING_LENGTHS.index(len(weighing))
        self.assertEqual(rows, by_point(change, start, weighing), (change, start, weighing))
        self.assertEqual([len(row) for row in rows], [reach + 1] * len(change))
        self.assertEqual([type(thing) for thing in [rows] + rows], [list] * (1 + len(change)))
        return rows

    def test_known_rows(self):
        # bent by trees of 1, 2, 3, 3 knots x x is 1, 2, 2, 4 where x is 1; the fork has 2 turns
        self.assertEqual(grove_rows(SQUARE, [ONE], [(3, 1)]), [[ONE, (3, 1)]])
        self.assertEqual(grove_rows(SQUARE, [ONE], [(3, 1), (5, 7)]), [[ONE, (3, 1), (10, 7)]])
        self.assertEqual(
            grove_rows(SQUARE, [ONE], [(3, 1), (5, 7), (1, 3), (1, 5)]), [[ONE, (3, 1), (10, 7), (17, 15)]])
        self.assertEqual(
            grove_rows(PLAIN, START, [HALF, (1, 3)]), [[(2, 1), (1, 6), (2, 9)], [(1, 3), (1, 3), (13, 27)]])

    def test_reach_0_tells_the_start_alone(self):
        for start in ([ONE], [NO], [(-5, 7)]):
            self.assertEqual(grove_rows(SQUARE, start, []), [start])
        self.assertEqual(grove_rows(PLAIN, START, []), [[(2, 1)], [(1, 3)]])
        self.assertEqual(grove_rows([[], [], []], [NO, ONE, HALF], []), [[NO], [ONE], [HALF]])

    def test_reach_1_tells_the_speeds(self):
        chance = chances(1)
        for unknowns in (1, 2, 3):
            change = some_change(chance, unknowns, 4, 2, 9)
            start = some_start(chance, unknowns, 9)
            speeds = change_speeds(change, start)
            for weight in (NO, ONE, (-2, 3), (7, 1)):
                due = [[place, told(Fraction(*weight) * Fraction(*speed))] for place, speed in zip(start, speeds)]
                self.assertEqual(grove_rows(change, start, [weight]), due)

    def test_any_fractions_are_summed_over_trees(self):
        chance = chances(2)
        for unknowns, reaches in ((1, range(8)), (2, range(6)), (3, range(5))):
            for reach in reaches:
                for greatest in (0, 1, 2):
                    change = some_change(chance, unknowns, 3, greatest, 9)
                    self.look(change, some_start(chance, unknowns, 9), weighing_of(chance, reach, 9))

    def test_six_knots_and_three_unknowns(self):
        chance = chances(3)
        self.look(some_change(chance, 3, 2, 2, 9), some_start(chance, 3, 9), weighing_of(chance, 6, 9))

    def test_each_tree_by_itself(self):
        change = some_change(chances(4), 2, 6, 3, 9)
        trees = trees_to(6)
        for place, tree in enumerate(trees):
            weighing = [NO] * len(trees)
            weighing[place] = (-5, 3)
            bent = bent_at(change, tree, START)
            due = [[begin] + [NO] * 6 for begin in START]
            for row, worth in zip(due, bent):
                row[tree_knots(tree)] = told(Fraction(-5, 3) / tree_turns(tree) * Fraction(*worth))
            self.assertEqual(grove_rows(change, START, weighing), due)

    def test_weights_of_nothing(self):
        for reach, count in enumerate(WEIGHING_LENGTHS):
            self.assertEqual(grove_rows(PLAIN, START, [NO] * count), [[place] + [NO] * reach for place in START])

    def test_a_tables_weighing_tells_its_steps(self):
        chance = chances(5)
        tables = [table_of(name) for name in NAMES] + [some_table(chance, rows, 9) for rows in (1, 2, 3, 4, 5)]
        for table in tables + [tables_behind([table_of("fourth")] * 10)]:
            for unknowns in (1, 2, 3):
                change = some_change(chance, unknowns, 4, 2, 9)
                start = some_start(chance, unknowns, 9)
                for reach in (0, 1, 2, 3, 4, 5, 6, 7):
                    self.assertEqual(
                        grove_rows(change, start, table_weighing(table, reach)), step_rows(table, change, start, reach))

    def test_the_true_weighing_tells_the_growth(self):
        chance = chances(6)
        for unknowns in (1, 2, 3):
            for greatest in (0, 1, 2, 3):
                change = some_change(chance, unknowns, 5, greatest, 9)
                start = some_start(chance, unknowns, 9)
                for reach in range(8):
                    self.assertEqual(
                        grove_rows(change, start, true_weighing(reach)), growth_rows(change, start, reach))

    def test_less_reach_is_the_beginning_of_more(self):
        weighing = weighing_of(chances(7), 7, 9)
        rows = grove_rows(PLAIN, START, weighing)
        for reach, count in enumerate(WEIGHING_LENGTHS):
            self.assertEqual(grove_rows(PLAIN, START, weighing[:count]), [row[:reach + 1] for row in rows])

    def test_parting_changes_show_one_tree(self):
        weighing = weighing_of(chances(8), 7, 99)
        for tree, weight in zip(trees_to(7), weighing):
            change, start = plain_parting(tree)
            due = [NO] * 8
            due[tree_knots(tree)] = weight
            self.assertEqual(grove_rows(change, start, weighing)[0], due)

    def test_what_stands_still_or_moves_evenly(self):
        weighing = weighing_of(chances(9), 5, 9)
        self.assertEqual(grove_rows([[]], [(5, 7)], weighing), [[(5, 7)] + [NO] * 5])
        self.assertEqual(grove_rows([[((0,), ONE)]], [(5, 7)], weighing), [[(5, 7), weighing[0]] + [NO] * 4])

    def test_starts_with_noughts(self):
        chance = chances(10)
        for unknowns in (1, 2, 3):
            change = some_change(chance, unknowns, 5, 2, 9)
            self.look(change, [NO] * unknowns, weighing_of(chance, 4, 9))
            self.look(change, [NO] + some_start(chance, unknowns - 1, 9), weighing_of(chance, 4, 9))

    def test_many_figures(self):
        chance = chances(11)
        for unknowns, reach in ((1, 7), (2, 5), (3, 4)):
            change = some_change(chance, unknowns, 4, 2, BIG)
            self.look(change, some_start(chance, unknowns, BIG), weighing_of(chance, reach, BIG))
        change = some_change(chance, 3, 10, 2, BIG)
        start = some_start(chance, 3, BIG)
        table = some_table(chance, 5, BIG)
        self.assertEqual(grove_rows(change, start, table_weighing(table, 6)), step_rows(table, change, start, 6))

    def test_told_lists_are_the_askers_own(self):
        for reach in range(8):
            own_answer(self, grove_rows, PLAIN, START, true_weighing(reach))
            own_answer(self, grove_rows, [[((2,), ONE)]], [HALF], table_weighing(table_of("heel"), reach))


class Refusals(unittest.TestCase):
    def test_no_change(self):
        for thing in no_changes():
            with self.subTest(thing):
                refused(self, NoChange, grove_rows, thing, [ONE], true_weighing(3))

    def test_no_start(self):
        for change in (SQUARE, [[]], PLAIN):
            for thing in no_starts(len(change)):
                with self.subTest(thing):
                    refused(self, NoStart, grove_rows, change, thing, true_weighing(3))
                    refused(self, NoStart, grove_rows, change, thing, [])

    def test_no_weighing(self):
        for thing in no_weighings():
            with self.subTest(thing):
                refused(self, NoWeighing, grove_rows, SQUARE, [ONE], thing)
                refused(self, NoWeighing, grove_rows, PLAIN, START, thing)

    def test_order_of_refusals(self):
        for thing in no_changes():
            refused(self, NoChange, grove_rows, thing, None, None)
            refused(self, NoChange, grove_rows, thing, [ONE], None)
            refused(self, NoChange, grove_rows, thing, None, [])
            refused(self, NoChange, grove_rows, thing, [], [HALF] * 3)
        for thing in no_starts(2):
            refused(self, NoStart, grove_rows, PLAIN, thing, None)
            refused(self, NoStart, grove_rows, PLAIN, thing, [HALF] * 3)


if __name__ == "__main__":
    unittest.main()
