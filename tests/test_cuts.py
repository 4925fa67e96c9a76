import unittest

from stepgrove.cuts import tree_cuts, tree_ties
from stepgrove.errors import NoTree
from stepgrove.trees import is_tree, tree_knots, trees_to

from plain import cuts_by_knots, ties_by_knots
from things import no_trees, own_answer, refused

KNOT = ()
PAIR = ((),)
FORK = ((), ())
CHAIN = (((),),)
TRIPLE = ((), (), ())


class Ties(unittest.TestCase):
    def test_single_knot_has_none(self):
        self.assertEqual(tree_ties(KNOT), [])

    def test_small_trees(self):
        self.assertEqual(tree_ties(PAIR), [(KNOT, KNOT)])
        self.assertEqual(tree_ties(CHAIN), [(KNOT, PAIR), (PAIR, KNOT)])
        self.assertEqual(tree_ties((PAIR, KNOT)), [(PAIR, PAIR), (FORK, KNOT), (CHAIN, KNOT)])
        self.assertEqual(tree_ties((FORK,)), [(KNOT, FORK), (CHAIN, KNOT), (CHAIN, KNOT)])

    def test_alike_boughs_have_a_tie_each(self):
        self.assertEqual(tree_ties(FORK), [(PAIR, KNOT)] * 2)
        self.assertEqual(tree_ties(TRIPLE), [(FORK, KNOT)] * 3)
        self.assertEqual(tree_ties((PAIR, PAIR)), [((PAIR,), PAIR)] * 2 + [((PAIR, KNOT), KNOT)] * 2)

    def test_trunks_are_kept_in_order(self):
        # What is left of the first bough is lesser than the second one.
        self.assertIn(((FORK, PAIR), KNOT), tree_ties((CHAIN, FORK)))
        self.assertEqual(tree_ties((CHAIN, FORK))[0], ((FORK,), CHAIN))
        for tree in trees_to(7):
            for trunk, part in tree_ties(tree):
                self.assertIs(is_tree(trunk), True)
                self.assertIs(is_tree(part), True)
                self.assertEqual(tree_knots(trunk) + tree_knots(part), tree_knots(tree))

    def test_all_trees_by_knots(self):
        for tree in trees_to(7):
            ties = tree_ties(tree)
            self.assertEqual(ties, ties_by_knots(tree))
            self.assertEqual(len(ties), tree_knots(tree) - 1)
            self.assertEqual(ties, sorted(ties))

    def test_more_than_seven_knots_are_not_refused(self):
        self.assertEqual(tree_ties(((),) * 9), [(((),) * 8, KNOT)] * 9)

    def test_kinds(self):
        self.assertIs(type(tree_ties(CHAIN)), list)
        self.assertEqual([type(tie) for tie in tree_ties(CHAIN)], [tuple, tuple])

    def test_told_lists_are_the_askers_own(self):
        for tree in trees_to(5):
            own_answer(self, tree_ties, tree)

    def test_what_is_no_tree_is_refused(self):
        for thing in no_trees():
            with self.subTest(thing):
                refused(self, NoTree, tree_ties, thing)


class Cuts(unittest.TestCase):
    def test_single_knot(self):
        self.assertEqual(tree_cuts(KNOT), [(None, [KNOT]), (KNOT, [])])

    def test_small_trees(self):
        self.assertEqual(tree_cuts(PAIR), [(None, [PAIR]), (KNOT, [KNOT]), (PAIR, [])])
        self.assertEqual(tree_cuts(CHAIN), [(None, [CHAIN]), (KNOT, [PAIR]), (PAIR, [KNOT]), (CHAIN, [])])

    def test_alike_ones_as_often_as_they_come(self):
        self.assertEqual(
            tree_cuts(FORK), [(None, [FORK]), (KNOT, [KNOT, KNOT]), (PAIR, [KNOT]), (PAIR, [KNOT]), (FORK, [])])

    def test_several_ties_none_above_another(self):
        self.assertEqual(tree_cuts((PAIR, KNOT)), [
            (None, [(PAIR, KNOT)]),
            (KNOT, [PAIR, KNOT]),
            (PAIR, [KNOT, KNOT]),
            (PAIR, [PAIR]),
            (FORK, [KNOT]),
            (CHAIN, [KNOT]),
            ((PAIR, KNOT), []),
        ])
        self.assertEqual([cut for cut in tree_cuts((FORK,)) if len(cut[1]) == 2], [(PAIR, [KNOT, KNOT])])

    def test_the_whole_and_none_are_there_once(self):
        for tree in trees_to(7):
            cuts = tree_cuts(tree)
            self.assertEqual(cuts[0], (None, [tree]))
            self.assertEqual([cut for cut in cuts if cut[0] is None], [(None, [tree])])
            self.assertEqual([cut for cut in cuts if cut[1] == []], [(tree, [])])

    def test_parts_in_falling_order(self):
        parts = [cut[1] for tree in trees_to(7) for cut in tree_cuts(tree)]
        self.assertIn([PAIR, KNOT], parts)
        self.assertIn([CHAIN, FORK], parts)
        for some in parts:
            self.assertEqual(some, sorted(some, reverse=True))

    def test_all_trees_by_knots(self):
        for tree in trees_to(7):
            cuts = tree_cuts(tree)
            self.assertEqual(cuts, cuts_by_knots(tree))
            for trunk, parts in cuts[1:]:
                self.assertIs(is_tree(trunk), True)
                self.assertEqual([is_tree(part) for part in parts], [True] * len(parts))
                self.assertEqual(tree_knots(trunk) + sum(tree_knots(part) for part in parts), tree_knots(tree))

    def test_cuts_of_one_tie_are_the_ties(self):
        for tree in trees_to(7):
            single = [(trunk, parts[0]) for trunk, parts in tree_cuts(tree)[1:] if len(parts) == 1]
            self.assertEqual(single, tree_ties(tree))

    def test_more_than_seven_knots_are_not_refused(self):
        self.assertEqual(len(tree_cuts(((),) * 8)), 2 ** 8 + 1)

    def test_kinds(self):
        cuts = tree_cuts((PAIR, KNOT))
        self.assertIs(type(cuts), list)
        for cut in cuts:
            self.assertIs(type(cut), tuple)
            self.assertIs(type(cut[1]), list)

    def test_told_lists_are_the_askers_own(self):
        for tree in trees_to(5):
            own_answer(self, tree_cuts, tree)

    def test_what_is_no_tree_is_refused(self):
        for thing in no_trees():
            with self.subTest(thing):
                refused(self, NoTree, tree_cuts, thing)


if __name__ == "__main__":
    unittest.main()
