import unittest
from fractions import Fraction

from stepgrove.changes import bent_at
from stepgrove.errors import NoTable, NoTree, NoWeighing, TooMany
from stepgrove.growth import growth_rows
from stepgrove.steps import step_rows
from stepgrove.tables import table_of
from stepgrove.trees import tree_density, tree_knots, tree_turns, trees_of, trees_to
from stepgrove.weights import table_weight, table_weighing, true_weighing, weighing_reach

from plain import chances, plain_weight, some_change, some_start, some_table, tables_behind, told
from things import (
    WEIGHING_LENGTHS, good_tables, nested, no_tables, no_trees, no_weighings, own_answer, refused,
)

NO = (0, 1)
ONE = (1, 1)
HALF = (1, 2)
BIG = 10 ** 12 - 11
NAMES = ["plain", "middle", "heel", "third", "fourth"]

KNOT = ()
PAIR = ((),)
FORK = ((), ())
CHAIN = (((),),)

OUT_OF_BOUNDS = [-1, -2, -7, -8, -10 ** 12, -10 ** 40, 8, 9, 40, 85, 10 ** 12, 10 ** 40]


def total(row):
    return sum(Fraction(*part) for part in row)


def by_rows(table, tree):
    """The weight as a walk from the rows' sides: what each row reads of a bough, the boughs multiplied."""
    rows, last = table

    def at(row, boughs):
        product = Fraction(1)
        for bough in boughs:
            product = product * sum(Fraction(*part) * at(k, bough) for k, part in enumerate(rows[row]) if part[0])
        return product

    return told(sum(Fraction(*part) * at(k, tree) for k, part in enumerate(last)))


def by_trees(change, start, weighing, most):
    """The rows as the trees tell them: for each its weight through turns times the bent change."""
    rows = [[place] for place in start]
    weights = dict(zip(trees_to(most), weighing, strict=True))
    for knots in range(1, most + 1):
        sums = [Fraction(0)] * len(start)
        for tree in trees_of(knots):
            share = Fraction(*weights[tree]) / tree_turns(tree)
            sums = [left + share * Fraction(*worth) for left, worth in zip(sums, bent_at(change, tree, start))]
        rows = [row + [told(number)] for row, number in zip(rows, sums)]
    return rows


class TableWeight(unittest.TestCase):
    def test_single_knot_weighs_the_sum_of_last(self):
        chance = chances(1)
        for table in good_tables() + [some_table(chance, rows, 99) for rows in (1, 2, 5, 7, 40)]:
            self.assertEqual(table_weight(table, KNOT), told(total(table[1])))

    def test_one_bough_and_several(self):
        table = ([[], [(1, 3)], [(1, 5), (1, 7)]], [(1, 2), (1, 11), (1, 13)])
        sums = [total(row) for row in table[0]]
        last = [Fraction(*part) for part in table[1]]
        self.assertEqual(table_weight(table, PAIR), told(sum(b * c for b, c in zip(last, sums))))
        self.assertEqual(table_weight(table, FORK), told(sum(b * c * c for b, c in zip(last, sums))))
        self.assertEqual(table_weight(table, (KNOT,) * 5), told(sum(b * c ** 5 for b, c in zip(last, sums))))
        self.assertEqual(table_weight(table, CHAIN), told(last[2] * Fraction(1, 7) * Fraction(1, 3)))
        self.assertEqual(table_weight(table, (FORK,)), told(last[2] * Fraction(1, 7) * Fraction(1, 3) ** 2))
        self.assertEqual(table_weight(table, (PAIR, KNOT)), told(last[2] * sums[2] * Fraction(1, 7) * Fraction(1, 3)))

    def test_rows_that_are_not_read(self):
        for table in (([[], [NO]], [HALF, HALF]), ([[], [NO], [NO, NO]], [ONE, ONE, ONE]), ([[], [ONE]], [ONE, NO])):
            for tree in trees_to(5)[1:]:
                self.assertEqual(table_weight(table, tree), NO)
        self.assertEqual(table_weight(([[], [NO]], [HALF, HALF]), KNOT), ONE)
        for tree in trees_to(7)[1:]:
            self.assertEqual(table_weight(table_of("plain"), tree), NO)

    def test_trees_deeper_than_the_rows_weigh_nothing(self):
        for rows in range(1, 7):
            chain = nested((), rows, lambda inner: (inner,))
            table = some_table(chances(rows), rows, 9)
            self.assertEqual(table_weight(table, chain), NO)
            self.assertNotEqual(table_weight(table, chain[0]), NO)

    def test_known_weights(self):
        fourth = table_of("fourth")
        self.assertEqual(table_weight(fourth, (KNOT,) * 4), (5, 24))
        self.assertEqual(table_weight(fourth, ((CHAIN,),)), NO)
        self.assertEqual(table_weight(fourth, (PAIR, PAIR)), (1, 16))
        self.assertEqual(table_weight(table_of("third"), (KNOT,) * 3), (2, 9))
        self.assertEqual(table_weight(table_of("heel"), FORK), HALF)
        self.assertEqual(table_weight(table_of("middle"), FORK), (1, 4))

    def test_all_ways_of_putting_knots_on_rows(self):
        chance = chances(2)
        for rows, most in ((1, 7), (2, 7), (3, 6), (4, 5), (5, 4)):
            table = some_table(chance, rows, 9)
            for tree in trees_to(most):
                self.assertEqual(table_weight(table, tree), plain_weight(table, tree), (table, tree))
        for name in NAMES:
            for tree in trees_to(5):
                self.assertEqual(table_weight(table_of(name), tree), plain_weight(table_of(name), tree))

    def test_told_tables_of_many_rows(self):
        chance = chances(3)
        tables = [tables_behind([table_of("fourth")] * 10), tables_behind([some_table(chance, 5, 9)] * 2)]
        for table in tables + [some_table(chance, 7, 9), some_table(chance, 40, 3)]:
            for tree in trees_to(3) + [(PAIR, PAIR), ((PAIR, KNOT),), (FORK, KNOT, KNOT)]:
                self.assertEqual(table_weight(table, tree), by_rows(table, tree))
        for tree in trees_to(4):
            share = Fraction(10) ** tree_knots(tree) / tree_density(tree)
            self.assertEqual(table_weight(tables[0], tree), told(share))

    def test_many_figures(self):
        table = some_table(chances(4), 5, BIG)
        for tree in trees_of(4) + trees_of(7)[::8]:
            self.assertEqual(table_weight(table, tree), by_rows(table, tree))

    def test_more_than_seven_knots_are_not_refused(self):
        wide = (KNOT,) * 9
        self.assertEqual(table_weight(table_of("heel"), wide), HALF)

    def test_refusals(self):
        for thing in no_tables():
            with self.subTest(thing):
                refused(self, NoTable, table_weight, thing, KNOT)
        for thing in no_trees():
            with self.subTest(thing):
                refused(self, NoTree, table_weight, table_of("fourth"), thing)

    def test_order_of_refusals(self):
        for thing in no_tables():
            for other in (None, [], ((), ((),)), 8):
                refused(self, NoTable, table_weight, thing, other)


class Weighings(unittest.TestCase):
    def test_lengths(self):
        for most, count in enumerate(WEIGHING_LENGTHS):
            self.assertEqual(len(true_weighing(most)), count)
            for name in NAMES:
                self.assertEqual(len(table_weighing(table_of(name), most)), count)

    def test_table_weighing_has_the_trees_in_their_order(self):
        chance = chances(5)
        for table in [table_of(name) for name in NAMES] + [some_table(chance, rows, 9) for rows in (1, 2, 3, 5, 40)]:
            for most in range(8):
                due = [table_weight(table, tree) for tree in trees_to(most)]
                self.assertEqual(table_weighing(table, most), due)

    def test_table_weighing_by_all_ways(self):
        table = some_table(chances(6), 3, 9)
        self.assertEqual(table_weighing(table, 6), [plain_weight(table, tree) for tree in trees_to(6)])

    def test_true_weighing_is_one_through_density(self):
        self.assertEqual(true_weighing(0), [])
        self.assertEqual(true_weighing(3), [ONE, HALF, (1, 3), (1, 6)])
        for most in range(8):
            self.assertEqual(true_weighing(most), [(1, tree_density(tree)) for tree in trees_to(most)])

    def test_named_tables_are_true_as_far_as_they_are_good(self):
        for name, order in (("plain", 1), ("middle", 2), ("heel", 2), ("third", 3), ("fourth", 4)):
            for most in range(8):
                alike = table_weighing(table_of(name), most) == true_weighing(most)
                self.assertIs(alike, most <= order, (name, most))

    def test_the_trees_tell_the_steps_and_the_growth(self):
        chance = chances(7)
        for unknowns in (1, 2, 3):
            change = some_change(chance, unknowns, 4, 2, 9)
            start = some_start(chance, unknowns, 9)
            for table in (table_of("third"), some_table(chance, 4, 9)):
                self.assertEqual(
                    by_trees(change, start, table_weighing(table, 5), 5), step_rows(table, change, start, 5))
            self.assertEqual(by_trees(change, start, true_weighing(5), 5), growth_rows(change, start, 5))

    def test_kinds(self):
        for weighing in (table_weighing(table_of("heel"), 3), true_weighing(3)):
            self.assertIs(type(weighing), list)
            self.assertEqual([type(part) for part in weighing], [tuple] * 4)

    def test_most_out_of_bounds(self):
        for most in OUT_OF_BOUNDS:
            with self.subTest(most):
                refused(self, TooMany, true_weighing, most)
                for name in NAMES:
                    refused(self, TooMany, table_weighing, table_of(name), most)

    def test_no_table_is_refused_first(self):
        for thing in no_tables():
            with self.subTest(thing):
                refused(self, NoTable, table_weighing, thing, 3)
                refused(self, NoTable, table_weighing, thing, 8)
                refused(self, NoTable, table_weighing, thing, -1)

    def test_told_lists_are_the_askers_own(self):
        for most in range(8):
            own_answer(self, true_weighing, most)
            for name in NAMES:
                own_answer(self, table_weighing, table_of(name), most)
        for tree in trees_to(3):
            own_answer(self, table_weight, table_of("fourth"), tree)


class WeighingReach(unittest.TestCase):
    def test_reach_of_each_length(self):
        chance = chances(8)
        for most, count in enumerate(WEIGHING_LENGTHS):
            for weighing in ([HALF] * count, [NO] * count, some_start(chance, count, BIG), [(-3, 7)] * count):
                self.assertEqual(weighing_reach(weighing), most)
                self.assertIs(type(weighing_reach(weighing)), int)

    def test_reach_of_told_weighings(self):
        for most in range(8):
            self.assertEqual(weighing_reach(true_weighing(most)), most)
            self.assertEqual(weighing_reach(table_weighing(table_of("third"), most)), most)
            self.assertEqual(weighing_reach(table_weighing(some_table(chances(9), 5, BIG), most)), most)

    def test_what_is_handed_in_stays(self):
        for count in WEIGHING_LENGTHS:
            own_answer(self, weighing_reach, [HALF] * count)

    def test_refusals(self):
        for thing in no_weighings():
            with self.subTest(thing):
                refused(self, NoWeighing, weighing_reach, thing)


if __name__ == "__main__":
    unittest.main()
