import copy
import math
import unittest
from fractions import Fraction

from stepgrove.changes import bent_at, bent_change, change_speeds
from stepgrove.errors import NoChange, NoStart, TooMany
from stepgrove.growth import growth_rows
from stepgrove.trees import tree_density, tree_turns, trees_of

from plain import chances, put_into, some_change, some_start, told
from things import good_changes, no_changes, no_starts, own_answer, refused

ONE = (1, 1)
BIG = 10 ** 12 - 11
PLAIN = [[((0, 1), ONE)], [((1, 1), ONE)]]
START = [(2, 1), (1, 3)]


def by_trees(change, start, most):
    """The growth as the trees tell it: for each the bent change through density times turns."""
    rows = [[place] for place in start]
    for knots in range(1, most + 1):
        total = [Fraction(0)] * len(start)
        for tree in trees_of(knots):
            worths = bent_at(change, tree, start)
            share = tree_density(tree) * tree_turns(tree)
            total = [left + Fraction(*worth) / share for left, worth in zip(total, worths)]
        rows = [row + [told(number)] for row, number in zip(rows, total)]
    return rows


class Growth(unittest.TestCase):
    def look(self, change, start, most):
        rows = growth_rows(change, start, most)
        self.assertEqual(len(rows), len(change))
        self.assertEqual([len(row) for row in rows], [most + 1] * len(change))
        self.assertEqual([row[0] for row in rows], start)
        plain = [[Fraction(*part) for part in row] for row in rows]
        self.assertEqual([[told(part) for part in row] for row in plain], rows)
        for some, row in zip(change, plain):
            moved = [(k + 1) * row[k + 1] for k in range(most)]
            self.assertEqual(put_into(some, plain)[:most], moved, (change, start, most))
        return rows

    def test_known_growths(self):
        whole = [(1, math.factorial(k)) for k in range(8)]
        self.assertEqual(growth_rows([[((1,), ONE)]], [ONE], 7), [whole])
        self.assertEqual(growth_rows([[((2,), ONE)]], [ONE], 7), [[ONE] * 8])
        self.assertEqual(growth_rows([[((2,), ONE)]], [(1, 2)], 7), [[(1, 2 ** (k + 1)) for k in range(8)]])
        self.assertEqual(
            growth_rows([[((2,), ONE), ((0,), ONE)]], [(0, 1)], 7),
            [[(0, 1), ONE, (0, 1), (1, 3), (0, 1), (2, 15), (0, 1), (17, 315)]])
        self.assertEqual(
            growth_rows([[((0, 1), ONE)], [((1, 0), (-1, 1))]], [(0, 1), ONE], 5),
            [[(0, 1), ONE, (0, 1), (-1, 6), (0, 1), (1, 120)], [ONE, (0, 1), (-1, 2), (0, 1), (1, 24), (0, 1)]])

    def test_what_stands_still_or_moves_evenly(self):
        self.assertEqual(growth_rows([[]], [(5, 7)], 7), [[(5, 7)] + [(0, 1)] * 7])
        self.assertEqual(growth_rows([[((0,), (3, 4))]], [(5, 7)], 7), [[(5, 7), (3, 4)] + [(0, 1)] * 6])
        self.assertEqual(
            growth_rows([[((0, 1), ONE)], [((0, 0), (1, 2))]], [(1, 3), (0, 1)], 3),
            [[(1, 3), (0, 1), (1, 4), (0, 1)], [(0, 1), (1, 2), (0, 1), (0, 1)]])

    def test_most_0_tells_the_start_alone(self):
        for change in good_changes():
            start = ([(1, 2), (0, 1), (-2, 3)] * len(change))[:len(change)]
            self.assertEqual(growth_rows(change, start, 0), [[place] for place in start])

    def test_most_1_tells_the_speeds(self):
        for change in (PLAIN, [[((2,), (1, 3))]]):
            start = START[:len(change)]
            self.assertEqual([row[1] for row in growth_rows(change, start, 1)], change_speeds(change, start))

    def test_less_most_is_the_beginning_of_more(self):
        rows = growth_rows(PLAIN, START, 7)
        for most in range(8):
            self.assertEqual(growth_rows(PLAIN, START, most), [row[:most + 1] for row in rows])

    def test_rows_move_with_the_speeds(self):
        chance = chances(1)
        for unknowns in (1, 2, 3, 4):
            for greatest in (0, 1, 2, 3):
                for terms in (1, 4, 12):
                    change = some_change(chance, unknowns, terms, greatest, 9)
                    start = some_start(chance, unknowns, 9)
                    for most in (1, 4, 7):
                        self.look(change, start, most)

    def test_starts_with_noughts(self):
        chance = chances(2)
        for unknowns in (1, 2, 3):
            change = some_change(chance, unknowns, 5, 3, 9)
            self.look(change, [(0, 1)] * unknowns, 7)
            self.look(change, [(0, 1)] + some_start(chance, unknowns - 1, 9), 7)

    def test_many_figures(self):
        chance = chances(3)
        for unknowns in (1, 2, 4):
            change = some_change(chance, unknowns, 12, 3, BIG)
            self.look(change, some_start(chance, unknowns, BIG), 7 if unknowns < 4 else 5)

    def test_great_powers(self):
        self.look([[((30,), (1, 3)), ((29,), (-1, 2)), ((0,), ONE)]], [(2, 3)], 7)
        self.look([[((9, 9), (1, 3))], [((0, 12), (-1, 2)), ((0, 0), ONE)]], [(2, 3), (-1, 2)], 5)

    def test_what_was_told_may_be_handed_in_again(self):
        change = bent_change(some_change(chances(4), 2, 4, 2, 99), (((),),))
        start = [row[-1] for row in growth_rows(PLAIN, START, 7)]
        self.look(change, start, 7)

    def test_as_the_trees_tell_it(self):
        chance = chances(5)
        for unknowns in (1, 2, 3):
            change = some_change(chance, unknowns, 4, 2, 9)
            start = some_start(chance, unknowns, 9)
            self.assertEqual(growth_rows(change, start, 6), by_trees(change, start, 6))

    def test_refusals(self):
        for thing in no_changes():
            with self.subTest(thing):
                refused(self, NoChange, growth_rows, thing, [ONE], 3)
        for change in ([[((1,), ONE)]], [[]], PLAIN):
            for thing in no_starts(len(change)):
                with self.subTest(thing):
                    refused(self, NoStart, growth_rows, change, thing, 3)
        for most in (-1, -2, -7, -10 ** 12, 8, 9, 100, 10 ** 12, 10 ** 40):
            with self.subTest(most):
                refused(self, TooMany, growth_rows, PLAIN, START, most)

    def test_order_of_refusals(self):
        for thing in no_changes():
            refused(self, NoChange, growth_rows, thing, None, 8)
            refused(self, NoChange, growth_rows, thing, [ONE], -1)
            refused(self, NoChange, growth_rows, thing, [(2, 4)], 3)
        for thing in no_starts(2):
            refused(self, NoStart, growth_rows, PLAIN, thing, 8)
            refused(self, NoStart, growth_rows, PLAIN, thing, -1)

    def test_told_lists_are_the_askers_own(self):
        for most in range(8):
            own_answer(self, growth_rows, copy.deepcopy(PLAIN), list(START), most)
            own_answer(self, growth_rows, [[], []], list(START), most)

    def test_kinds(self):
        rows = growth_rows(PLAIN, START, 3)
        self.assertIs(type(rows), list)
        for row in rows:
            self.assertIs(type(row), list)
            self.assertEqual([type(part) for part in row], [tuple] * 4)


if __name__ == "__main__":
    unittest.main()
