"""The change that a rule truly follows: the numbers of trees that flow into its weighing."""

from stepgrove.changes import bent_polys, refuse_no_change
from stepgrove.cuts import tree_ties
from stepgrove.fracs import common_bottom, frac_less, frac_sum, frac_total
from stepgrove.groves import shares_of
from stepgrove.polys import gathered, poly_scaled
from stepgrove.trees import knots_within, product_up_to, trees_of, trees_to
from stepgrove.weights import weighing_reach
from stepgrove.wholes import pace_of, tops_over, whole_change


def flow_weighing(numbers):
    trees = trees_to(weighing_reach(numbers))
    moves = {}
    weights = []
    for tree, number in zip(trees, numbers):
        later = later_moves(tree, moves)
        moves[tree] = [number] + later
        weights.append(frac_sum(number, later_weight(later)))
    return weights


def followed_weighing(weighing):
    trees = trees_to(weighing_reach(weighing))
    moves = {}
    for tree, weight in zip(trees, weighing):
        later = later_moves(tree, moves)
        moves[tree] = [frac_less(weight, later_weight(later))] + later
    return [moves[tree][0] for tree in trees]


def followed_changes(change, weighing):
    refuse_no_change(change)
    left = followed_weighing(weighing)
    moving = whole_change(change, 1)
    pace = pace_of(change, 1)
    changes = []
    known = {}
    # Each knot brings one speed in, and with it the pace once.
    bottom = 1
    for knots in range(1, weighing_reach(weighing) + 1):
        trees = trees_of(knots)
        bottom = bottom * pace
        changes.append(followed_change(moving, shared_trees(trees, left), bottom, known))
        left = left[len(trees):]
    return changes


# The moves of a tree are D_1, D_2 .. of it, up to as many as it has knots: all behind these are 0.


def later_moves(tree, moves):
    # A tie parts a tree into two with fewer knots, so D_2 and those behind it never ask for the tree's own number.
    ties = tree_ties(tree)
    later = []
    for j in range(knots_within(tree) - 1):
        shares = [move_share(moves[trunk], j, moves[part][0]) for trunk, part in ties]
        later.append(frac_total(shares))
    return later


def move_share(trunk_moves, j, number):
    if j >= len(trunk_moves):
        return (0, 1)
    return (trunk_moves[j][0] * number[0], trunk_moves[j][1] * number[1])


def later_weight(later):
    return frac_total([(move[0], move[1] * product_up_to(j)) for j, move in enumerate(later, start=2)])


def shared_trees(trees, numbers):
    # Of many weighings most trees have the number 0, and bending by these would cost as much as by the others.
    return [(tree, share) for tree, share in zip(trees, shares_of(trees, numbers)) if share[0] != 0]


def followed_change(moving, shared, bottom, known):
    common = common_bottom([share[1] for tree, share in shared])
    tops = tops_over([share for tree, share in shared], common)
    bends = [bent_polys(moving, tree, known) for tree, share in shared]
    part = (1, common * bottom)
    return [poly_scaled(topped_sum([bent[k] for bent in bends], tops), part) for k in range(len(moving))]


def topped_sum(polys, tops):
    terms = []
    for some, top in zip(polys, tops):
        terms.extend(poly_scaled(some, (top, 1)))
    return gathered(terms)
