import copy
import unittest
from fractions import Fraction

from stepgrove.changes import bent_at, bent_change, change_speeds, is_change
from stepgrove.errors import NoChange, NoStart, NoTree
from stepgrove.polys import poly_at
from stepgrove.trees import trees_of, trees_to

from plain import chances, plain_at, plain_bent, plain_poly, some_change, some_start, told, told_poly
from things import good_changes, no_changes, no_starts, no_trees, own_answer, refused

ONE = (1, 1)
BIG = 10 ** 12 - 11
KNOT = ()
PAIR = ((),)
FORK = ((), ())
CHAIN = (((),),)

# x moves by y, y by x times y
PLAIN = [[((0, 1), ONE)], [((1, 1), ONE)]]
START = [(2, 1), (1, 3)]


def star(boughs):
    """The change of one unknown for the root and one for each of its boughs, all of them single knots."""
    root = [((0,) + (1,) * boughs, ONE)]
    return [root] + [[((0,) * (boughs + 1), ONE)] for _ in range(boughs)]


def plain_change(change):
    return [plain_poly(some) for some in change]


def worths(change, start):
    return [told(plain_at(some, [Fraction(*place) for place in start])) for some in plain_change(change)]


class IsChange(unittest.TestCase):
    def test_changes(self):
        for thing in good_changes() + [[[((10 ** 30,), ONE)]]]:
            before = copy.deepcopy(thing)
            with self.subTest(thing):
                self.assertIs(is_change(thing), True)
                self.assertEqual(thing, before)

    def test_other_things(self):
        for thing in no_changes():
            before = copy.deepcopy(thing)
            with self.subTest(thing):
                self.assertIs(is_change(thing), False)
                self.assertEqual(thing, before)

    def test_a_polynomial_too_many_or_too_few(self):
        for thing in good_changes():
            if any(thing):
                self.assertIs(is_change(thing + [[]]), False)
                self.assertIs(is_change(thing + thing), False)
                self.assertIs(is_change([[]] + thing), False)
            if any(thing[1:]):
                self.assertIs(is_change(thing[1:]), False)
            self.assertIs(is_change(tuple(thing)), False)
            self.assertIs(is_change([thing]), thing == [])

    def test_each_term_in_its_place(self):
        change = [[((2, 0), ONE), ((1, 1), (1, 2)), ((0, 5), (-1, 3)), ((0, 0), ONE)], [((1, 0), ONE)]]
        self.assertIs(is_change(change), True)
        terms = change[0]
        for k in range(len(terms)):
            for j in range(k):
                turned = list(terms)
                turned[j], turned[k] = terms[k], terms[j]
                self.assertIs(is_change([turned, change[1]]), False)
                self.assertIs(is_change([change[1], turned]), False)
            self.assertIs(is_change([terms[:k] + [terms[k]] + terms[k:], []]), False)
            self.assertIs(is_change([terms[:k] + terms[k + 1:], []]), True)

    def test_told_changes(self):
        change = some_change(chances(1), 3, 12, 2, BIG)
        for tree in trees_to(4):
            self.assertIs(is_change(bent_change(change, tree)), True)


class Speeds(unittest.TestCase):
    def test_plain_answers(self):
        self.assertEqual(change_speeds([[]], [(1, 2)]), [(0, 1)])
        self.assertEqual(change_speeds([[((1,), ONE)]], [(1, 2)]), [(1, 2)])
        self.assertEqual(change_speeds(PLAIN, START), [(1, 3), (2, 3)])
        self.assertEqual(change_speeds(star(3), [(5, 1), (1, 2), (2, 3), (-3, 1)]), [(-1, 1), ONE, ONE, ONE])

    def test_many(self):
        chance = chances(2)
        for unknowns in (1, 2, 3, 4):
            for figures in (9, BIG):
                change = some_change(chance, unknowns, 12, 3, figures)
                start = some_start(chance, unknowns, figures)
                self.assertEqual(change_speeds(change, start), worths(change, start))

    def test_good_changes(self):
        for change in good_changes():
            start = [(0, 1), (1, 1), (-1, 1)] * len(change)
            start = start[:len(change)]
            speeds = change_speeds(change, start)
            self.assertEqual(len(speeds), len(change))
            self.assertEqual(speeds, [poly_at(some, start) for some in change])

    def test_refusals(self):
        for thing in no_changes():
            with self.subTest(thing):
                refused(self, NoChange, change_speeds, thing, [(1, 2)])
        for change in ([[((1,), ONE)]], [[]], PLAIN, star(3)):
            for thing in no_starts(len(change)):
                with self.subTest(thing):
                    refused(self, NoStart, change_speeds, change, thing)

    def test_no_change_is_told_ahead_of_no_start(self):
        for thing in no_changes():
            refused(self, NoChange, change_speeds, thing, None)
            refused(self, NoChange, change_speeds, thing, [(2, 4)])

    def test_told_lists_are_the_askers_own(self):
        own_answer(self, change_speeds, copy.deepcopy(PLAIN), list(START))
        own_answer(self, change_speeds, [[]], [(1, 2)])


class Bent(unittest.TestCase):
    def test_single_knot_is_the_change_itself(self):
        for change in good_changes():
            self.assertEqual(bent_change(change, KNOT), change)

    def test_one_unknown(self):
        # of x x: x x, 2 x by x x, 2 by x x by x x, 2 x by 2 x by x x
        square = [[((2,), ONE)]]
        self.assertEqual(bent_change(square, KNOT), [[((2,), ONE)]])
        self.assertEqual(bent_change(square, PAIR), [[((3,), (2, 1))]])
        self.assertEqual(bent_change(square, FORK), [[((4,), (2, 1))]])
        self.assertEqual(bent_change(square, CHAIN), [[((4,), (4, 1))]])
        self.assertEqual(bent_change(square, ((), (), ())), [[]])

    def test_several_unknowns(self):
        self.assertEqual(bent_change(PLAIN, PAIR), [[((1, 1), ONE)], [((2, 1), ONE), ((0, 2), ONE)]])
        # y by x y: its slope in x, y, goes with y; its slope in y, x, with x y
        self.assertEqual(bent_change(PLAIN, FORK), [[], [((1, 2), (2, 1))]])
        self.assertEqual(
            bent_change(PLAIN, CHAIN), [[((2, 1), ONE), ((0, 2), ONE)], [((3, 1), ONE), ((1, 2), (2, 1))]])

    def test_fractions(self):
        change = [[((1,), (1, 2)), ((0,), (1, 3))]]
        self.assertEqual(bent_change(change, PAIR), [[((1,), (1, 4)), ((0,), (1, 6))]])
        self.assertEqual(bent_change(change, CHAIN), [[((1,), (1, 8)), ((0,), (1, 12))]])

    def test_nothing_moves(self):
        for tree in trees_to(5):
            self.assertEqual(bent_change([[], []], tree), [[], []])
        self.assertEqual(bent_change([[((0, 0), ONE)], []], PAIR), [[], []])

    def test_all_trees_straight_by_the_words(self):
        chance = chances(3)
        sizes = ((1, 3, 30, 6), (2, 4, 9, 6), (3, 4, 9, 5), (3, 10, 9, 3), (2, 6, BIG, 5))
        for unknowns, terms, figures, most in sizes:
            change = some_change(chance, unknowns, terms, 2, figures)
            for tree in trees_to(most):
                due = [told_poly(some) for some in plain_bent(plain_change(change), tree)]
                self.assertEqual(bent_change(change, tree), due, (change, tree))

    def test_beyond_the_bounds(self):
        change = some_change(chances(4), 4, 3, 3, 5)
        for tree in trees_to(4):
            due = [told_poly(some) for some in plain_bent(plain_change(change), tree)]
            self.assertEqual(bent_change(change, tree), due, tree)
        seven = bent_change([[((1,), (1, 2)), ((0,), ONE)]], ((((((KNOT,),),),),),))
        self.assertEqual(seven, [[((1,), (1, 128)), ((0,), (1, 64))]])

    def test_parting_changes(self):
        change = star(6)
        wide = tuple([KNOT] * 6)
        self.assertEqual(bent_change(change, wide), [[((0,) * 7, (720, 1))]] + [[]] * 6)
        for tree in trees_of(7):
            at_0 = bent_at(change, tree, [(0, 1)] * 7)
            self.assertEqual(at_0, [(720 if tree == wide else 0, 1)] + [(0, 1)] * 6)

    def test_what_was_told_may_be_handed_in_again(self):
        change = some_change(chances(5), 2, 4, 2, BIG)
        again = bent_change(change, CHAIN)
        self.assertEqual(bent_change(again, KNOT), again)
        due = [told_poly(some) for some in plain_bent(plain_change(again), FORK)]
        self.assertEqual(bent_change(again, FORK), due)

    def test_refusals(self):
        for thing in no_changes():
            with self.subTest(thing):
                refused(self, NoChange, bent_change, thing, KNOT)
        for thing in no_trees():
            with self.subTest(thing):
                refused(self, NoTree, bent_change, PLAIN, thing)

    def test_order_of_refusals(self):
        for thing in no_changes():
            refused(self, NoChange, bent_change, thing, None)
            refused(self, NoChange, bent_change, thing, (KNOT, PAIR))

    def test_told_lists_are_the_askers_own(self):
        for change in ([[]], PLAIN, [[((1,), (1, 2)), ((0,), (1, 3))]], star(3)):
            for tree in trees_to(4):
                own_answer(self, bent_change, copy.deepcopy(change), tree)


class BentAt(unittest.TestCase):
    def test_plain_answers(self):
        self.assertEqual(bent_at(PLAIN, KNOT, START), [(1, 3), (2, 3)])
        self.assertEqual(bent_at(PLAIN, PAIR, START), [(2, 3), (13, 9)])
        self.assertEqual(bent_at(PLAIN, FORK, START), [(0, 1), (4, 9)])
        self.assertEqual(bent_at([[((2,), ONE)]], CHAIN, [(-1, 2)]), [(1, 4)])
        self.assertEqual(bent_at([[]], KNOT, [(1, 2)]), [(0, 1)])

    def test_single_knot_tells_the_speeds(self):
        for change in good_changes():
            start = ([(1, 2), (0, 1), (-2, 3)] * len(change))[:len(change)]
            self.assertEqual(bent_at(change, KNOT, start), change_speeds(change, start))

    def test_worths_of_the_bent_change(self):
        chance = chances(6)
        sizes = ((1, 3, 2, 30, 6), (2, 6, 2, BIG, 5), (3, 10, 2, 9, 6), (4, 4, 3, 9, 4))
        for unknowns, terms, greatest, figures, most in sizes:
            change = some_change(chance, unknowns, terms, greatest, figures)
            start = some_start(chance, unknowns, figures)
            for tree in trees_to(most):
                self.assertEqual(bent_at(change, tree, start), worths(bent_change(change, tree), start), (change, tree))

    def test_straight_by_the_words(self):
        chance = chances(7)
        change = some_change(chance, 3, 5, 2, 9)
        start = some_start(chance, 3, 9)
        places = [Fraction(*place) for place in start]
        for tree in trees_to(4):
            due = [told(plain_at(some, places)) for some in plain_bent(plain_change(change), tree)]
            self.assertEqual(bent_at(change, tree, start), due, tree)

    def test_refusals(self):
        for thing in no_changes():
            with self.subTest(thing):
                refused(self, NoChange, bent_at, thing, KNOT, [ONE])
        for thing in no_trees():
            with self.subTest(thing):
                refused(self, NoTree, bent_at, PLAIN, thing, START)
        for change in ([[((1,), ONE)]], PLAIN):
            for thing in no_starts(len(change)):
                with self.subTest(thing):
                    refused(self, NoStart, bent_at, change, PAIR, thing)

    def test_order_of_refusals(self):
        for thing in no_changes():
            refused(self, NoChange, bent_at, thing, None, None)
            refused(self, NoChange, bent_at, thing, (KNOT, PAIR), [ONE])
            refused(self, NoChange, bent_at, thing, PAIR, [(2, 4)])
        for thing in no_trees():
            refused(self, NoTree, bent_at, PLAIN, thing, None)
            refused(self, NoTree, bent_at, PLAIN, thing, START[1:])

    def test_told_lists_are_the_askers_own(self):
        for tree in trees_to(4):
            own_answer(self, bent_at, copy.deepcopy(PLAIN), tree, list(START))


if __name__ == "__main__":
    unittest.main()
