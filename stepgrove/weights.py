"""Weights: the share that a table gives each tree, and the one that its density asks for."""

from stepgrove.errors import NoWeighing
from stepgrove.fracs import are_fractions, fraction_of, power_of
from stepgrove.tables import refuse_no_table
from stepgrove.trees import density_within, knots_within, refuse_no_tree, trees_to
from stepgrove.wholes import table_bottom, tops_over

# How many trees have at most 0, 1, 2 .. knots.
WEIGHING_LENGTHS = (0, 1, 2, 4, 8, 17, 37, 85)


def table_weight(table, tree):
    refuse_no_table(table)
    refuse_no_tree(tree)
    return weights_under(table, [tree])[0]


def table_weighing(table, most):
    refuse_no_table(table)
    return weights_under(table, trees_to(most))


def true_weighing(most):
    return true_weights(trees_to(most))


def weighing_reach(weighing):
    refuse_no_weighing(weighing)
    return WEIGHING_LENGTHS.index(len(weighing))


def refuse_no_weighing(thing):
    if not are_fractions(thing) or len(thing) not in WEIGHING_LENGTHS:
        raise NoWeighing("a weighing is a list of a fraction for each tree of at most 0 to 7 knots")


def true_weights(trees):
    return [(1, density_within(tree)) for tree in trees]


def weights_under(table, trees):
    bottom = table_bottom(table)
    # Last reads the root just as a row reads the knot of a bough, so it stands among the rows.
    rows = [tops_over(row, bottom) for row in table[0] + [table[1]]]
    known = {}
    weights = []
    for tree in trees:
        # Each knot is read once, so the bottom comes in once for each.
        weights.append(fraction_of(readings(rows, tree, known)[-1], power_of(bottom, knots_within(tree))))
    return weights


def readings(rows, tree, known):
    # Many trees have a bough alike, and what the rows read of it is the same in all.
    if tree not in known:
        shares = [1] * len(rows)
        for bough in tree:
            shares = [share * read for share, read in zip(shares, readings(rows, bough, known))]
        known[tree] = [read_by(row, shares) for row in rows]
    return known[tree]


def read_by(row, shares):
    return sum([part * share for part, share in zip(row, shares)])
