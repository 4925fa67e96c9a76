"""Weighings joined: done one behind another, undone, turned and mirrored."""

from stepgrove.cuts import tree_cuts
from stepgrove.errors import NotAlike
from stepgrove.fracs import frac_times, frac_total, power_of
from stepgrove.trees import knots_within, trees_to
from stepgrove.weights import weighing_reach


def weighing_composed(one, other):
    reach = weighing_reach(one)
    if weighing_reach(other) != reach:
        raise NotAlike("weighings are composed where they reach equally far")
    trees = trees_to(reach)
    ahead = dict(zip(trees, one))
    behind = dict(zip(trees, other))
    behind[None] = (1, 1)
    return [frac_total([cut_share(cut, ahead, behind) for cut in tree_cuts(tree)]) for tree in trees]


def weighing_undone(weighing):
    trees = trees_to(weighing_reach(weighing))
    ahead = dict(zip(trees, weighing))
    behind = {None: (1, 1)}
    for tree in trees:
        # Where nothing is cut off the share is what is looked for: all the others together must take it away.
        others = [cut_share(cut, ahead, behind) for cut in tree_cuts(tree) if cut[0] != tree]
        behind[tree] = frac_times(frac_total(others), (-1, 1))
    return [behind[tree] for tree in trees]


def weighing_turned(weighing, part):
    trees = trees_to(weighing_reach(weighing))
    return [frac_times(weight, frac_power(part, knots_within(tree))) for tree, weight in zip(trees, weighing)]


def weighing_mirrored(weighing):
    return weighing_turned(weighing_undone(weighing), (-1, 1))


def cut_share(cut, ahead, behind):
    top = behind[cut[0]][0]
    bottom = behind[cut[0]][1]
    for part in cut[1]:
        top = top * ahead[part][0]
        bottom = bottom * ahead[part][1]
    return (top, bottom)


def frac_power(part, power):
    return (power_of(part[0], power), power_of(part[1], power))
