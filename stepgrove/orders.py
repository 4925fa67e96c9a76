"""Orders: up to how many knots all trees have their true weight, and where two rules part."""

from stepgrove.tables import refuse_no_table
from stepgrove.trees import knots_within, parents_within, refuse_no_tree, trees_of, trees_to
from stepgrove.weights import true_weighing, true_weights, weighing_reach, weights_under

MOST_ORDER = 6


def table_order(table):
    refuse_no_table(table)
    # Most tables miss early, so trees of more knots are weighed only where those of fewer ones are all true.
    for order in range(MOST_ORDER):
        trees = trees_of(order + 1)
        tree = first_unlike(trees, weights_under(table, trees), true_weights(trees))
        if tree is not None:
            return (order, tree)
    return (MOST_ORDER, None)


def weighing_order(weighing):
    reach = weighing_reach(weighing)
    tree = first_unlike(trees_to(reach), weighing, true_weighing(reach))
    if tree is None:
        return (reach, None)
    return (knots_within(tree) - 1, tree)


def parting_change(tree):
    refuse_no_tree(tree)
    parents = parents_within(tree)
    change = []
    for knot in range(len(parents) + 1):
        # The root stands on no knot, so its unknown is in no speed.
        powers = [0] + [1 if parent == knot else 0 for parent in parents]
        change.append([(tuple(powers), (1, 1))])
    return (change, [(0, 1)] * len(change))


def parted_weighings(one, other):
    reach = min(weighing_reach(one), weighing_reach(other))
    tree = first_unlike(trees_to(reach), one, other)
    if tree is None:
        return None
    parting = parting_change(tree)
    return (tree, parting[0], parting[1])


def first_unlike(trees, one, other):
    for tree, weight, due in zip(trees, one, other):
        if weight != due:
            return tree
    return None
