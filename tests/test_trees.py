import copy
import itertools
import math
import unittest

from stepgrove.errors import GroveError, NoTree, TooMany
from stepgrove.trees import (
    is_tree, kept_tree, tree_density, tree_knots, tree_turns, tree_ways, trees_of, trees_to,
)

from plain import parents_of, shape
from things import nested, no_trees, odd_things

COUNTS = [1, 1, 2, 4, 9, 20, 48]

KNOT = ()
PAIR = ((),)
FORK = ((), ())
CHAIN = (((),),)

# tree, knots, density, turns, ways
KNOWN = [
    (KNOT, 1, 1, 1, 1),
    (PAIR, 2, 2, 1, 1),
    (FORK, 3, 3, 2, 1),
    (CHAIN, 3, 6, 1, 1),
    (((), (), ()), 4, 4, 6, 1),
    ((PAIR, KNOT), 4, 8, 1, 3),
    ((FORK,), 4, 12, 2, 1),
    ((CHAIN,), 4, 24, 1, 1),
    ((PAIR, PAIR), 5, 20, 2, 3),
    ((PAIR, KNOT, KNOT), 5, 10, 2, 6),
    ((CHAIN, KNOT), 5, 30, 1, 4),
    ((FORK, FORK), 7, 63, 8, 10),
    ((PAIR, PAIR, KNOT, KNOT), 7, 28, 4, 45),
    ((PAIR, PAIR, PAIR), 7, 56, 6, 15),
    ((FORK, PAIR, KNOT), 7, 42, 2, 60),
    (tuple([KNOT] * 6), 7, 7, 720, 1),
    (nested((), 6, lambda inner: (inner,)), 7, 5040, 1, 1),
]


def numberings(knots):
    """All ways to hang the knots 1, 2 .. each on one with a lesser number, as lists of what each hangs on."""
    return itertools.product(*[range(k) for k in range(1, knots)])


def shapes_counted(knots):
    counted = {}
    for parents in numberings(knots):
        tree = shape(parents)
        counted[tree] = counted.get(tree, 0) + 1
    return counted


def turns_by_trial(tree):
    parents = [None] + parents_of(tree)
    knots = range(1, len(parents))
    turns = 0
    for order in itertools.permutations(knots):
        image = (0,) + order
        if all(parents[image[k]] == image[parents[k]] for k in knots):
            turns = turns + 1
    return turns


def density_by_knots(tree):
    parents = [None] + parents_of(tree)
    above = [0] * len(parents)
    for knot in range(len(parents)):
        while knot is not None:
            above[knot] = above[knot] + 1
            knot = parents[knot]
    return math.prod(above)


class IsTree(unittest.TestCase):
    def test_trees(self):
        for row in KNOWN:
            with self.subTest(row[0]):
                self.assertIs(is_tree(row[0]), True)

    def test_no_trees(self):
        for thing in no_trees():
            before = copy.deepcopy(thing)
            with self.subTest(thing):
                self.assertIs(is_tree(thing), False)
                self.assertEqual(thing, before)

    def test_all_orders_of_boughs(self):
        boughs = [KNOT, KNOT, PAIR, FORK, CHAIN]
        falling = tuple(sorted(boughs, reverse=True))
        for order in itertools.permutations(boughs):
            self.assertIs(is_tree(order), order == falling, order)
            self.assertIs(is_tree((order,)), order == falling, order)

    def test_deep_and_wide(self):
        self.assertIs(is_tree(nested((), 19, lambda inner: (inner,))), True)
        self.assertIs(is_tree(tuple([()] * 400)), True)
        self.assertIs(is_tree(tuple([PAIR] * 200 + [KNOT] * 200)), True)
        self.assertIs(is_tree(tuple([PAIR] * 200 + [KNOT] * 199 + [PAIR])), False)
        self.assertIs(is_tree(tuple([()] * 399 + [None])), False)
        self.assertIs(is_tree(nested((), 19, lambda inner: tuple([inner] * 400))), True)
        self.assertIs(is_tree(nested([], 19, lambda inner: tuple([inner] * 400))), False)


class KeptTree(unittest.TestCase):
    def test_tree_stays(self):
        for tree in trees_to(7):
            self.assertEqual(kept_tree(tree), tree)

    def test_boughs_in_another_order(self):
        self.assertEqual(kept_tree((KNOT, PAIR)), (PAIR, KNOT))
        self.assertEqual(kept_tree(((KNOT, PAIR),)), ((PAIR, KNOT),))
        self.assertEqual(kept_tree((KNOT, (KNOT, PAIR), KNOT)), ((PAIR, KNOT), KNOT, KNOT))
        self.assertEqual(kept_tree((FORK, KNOT, CHAIN)), (CHAIN, FORK, KNOT))

    def test_boughs_are_kept_ahead_of_their_order(self):
        # As they stand the first bough is lesser than the second, once kept it is greater.
        self.assertEqual(kept_tree(((KNOT, CHAIN), (PAIR, PAIR))), ((CHAIN, KNOT), (PAIR, PAIR)))
        self.assertEqual(kept_tree(((PAIR, PAIR), (KNOT, CHAIN))), ((CHAIN, KNOT), (PAIR, PAIR)))

    def test_every_order(self):
        for order in itertools.permutations([KNOT, KNOT, PAIR, FORK]):
            self.assertEqual(kept_tree(order), (FORK, PAIR, KNOT, KNOT))
            self.assertIs(is_tree(kept_tree((KNOT, order))), True)

    def test_what_is_not_made_of_tuples_alone_is_refused(self):
        for thing in odd_things() + [[KNOT], (KNOT, [KNOT]), (PAIR, ((), 1)), ((("",),),)]:
            before = copy.deepcopy(thing)
            with self.subTest(thing):
                with self.assertRaises(NoTree) as caught:
                    kept_tree(thing)
                self.assertIs(type(caught.exception), NoTree)
                self.assertEqual(thing, before)


class Reckoning(unittest.TestCase):
    def test_known_trees(self):
        for tree, knots, density, turns, ways in KNOWN:
            with self.subTest(tree):
                self.assertEqual(tree_knots(tree), knots)
                self.assertEqual(tree_density(tree), density)
                self.assertEqual(tree_turns(tree), turns)
                self.assertEqual(tree_ways(tree), ways)

    def test_ways_are_the_numberings(self):
        for knots in range(1, 8):
            counted = shapes_counted(knots)
            self.assertEqual({tree: tree_ways(tree) for tree in trees_of(knots)}, counted)

    def test_density_is_the_product_over_knots(self):
        for tree in trees_to(7):
            self.assertEqual(tree_density(tree), density_by_knots(tree), tree)
            self.assertEqual(tree_knots(tree), len(parents_of(tree)) + 1, tree)

    def test_turns_by_trial(self):
        for tree in trees_to(7):
            self.assertEqual(tree_turns(tree), turns_by_trial(tree), tree)

    def test_answers_are_whole_numbers(self):
        for tree in trees_to(5):
            for ask in (tree_knots, tree_density, tree_turns, tree_ways):
                self.assertIs(type(ask(tree)), int)

    def test_more_than_seven_knots_are_not_refused(self):
        wide = tuple([()] * 8)
        self.assertEqual(
            (tree_knots(wide), tree_density(wide), tree_turns(wide), tree_ways(wide)), (9, 9, math.factorial(8), 1))

    def test_what_is_no_tree_is_refused(self):
        for thing in no_trees():
            before = copy.deepcopy(thing)
            for ask in (tree_knots, tree_density, tree_turns, tree_ways):
                with self.subTest(thing, ask=ask.__name__):
                    with self.assertRaises(NoTree) as caught:
                        ask(thing)
                    self.assertIs(type(caught.exception), NoTree)
                    self.assertEqual(thing, before)


class Lists(unittest.TestCase):
    def test_counts(self):
        self.assertEqual([len(trees_of(many)) for many in range(1, 8)], COUNTS)

    def test_first_lists(self):
        self.assertEqual(trees_of(1), [KNOT])
        self.assertEqual(trees_of(2), [PAIR])
        self.assertEqual(trees_of(3), [FORK, CHAIN])
        self.assertEqual(trees_of(4), [(KNOT, KNOT, KNOT), (PAIR, KNOT), (FORK,), (CHAIN,)])

    def test_every_tree_once_and_lesser_ones_first(self):
        for many in range(1, 8):
            self.assertEqual(trees_of(many), sorted(shapes_counted(many)))

    def test_every_entry_is_a_tree_of_so_many_knots(self):
        for many in range(1, 8):
            for tree in trees_of(many):
                self.assertIs(is_tree(tree), True)
                self.assertEqual(tree_knots(tree), many)

    def test_trees_to_puts_fewer_knots_first(self):
        due = []
        self.assertEqual(trees_to(0), [])
        for most in range(1, 8):
            due = due + sorted(shapes_counted(most))
            self.assertEqual(trees_to(most), due)
        self.assertEqual(len(due), 85)

    def test_beyond_the_bounds(self):
        refused = [(trees_of, 0), (trees_to, -1)]
        for many in (8, 9, 12, 10 ** 12, -2, -7, -10 ** 12):
            refused = refused + [(trees_of, many), (trees_to, many)]
        for ask, many in refused + [(trees_of, -1)]:
            with self.subTest(many, ask=ask.__name__):
                with self.assertRaises(TooMany) as caught:
                    ask(many)
                self.assertIs(type(caught.exception), TooMany)
                self.assertIsInstance(caught.exception, GroveError)

    def test_told_lists_are_the_askers_own(self):
        for ask, bounds in ((trees_of, range(1, 8)), (trees_to, range(0, 8))):
            for many in bounds:
                told = ask(many)
                self.assertIs(type(told), list)
                before = list(told)
                other = ask(many)
                told.append("mine")
                told[0] = "mine"
                told.reverse()
                self.assertEqual(other, before)
                self.assertEqual(ask(many), before)
                told.clear()
                self.assertEqual(ask(many), before)
        self.assertEqual([len(trees_of(many)) for many in range(1, 8)], COUNTS)
        self.assertEqual(len(trees_to(7)), 85)


if __name__ == "__main__":
    unittest.main()
