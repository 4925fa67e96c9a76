"""Changes: the speeds of some numbers as polynomials of them, and how trees bend them."""

from stepgrove.errors import NoChange
from stepgrove.fracs import fraction_of, power_of
from stepgrove.polys import is_poly, poly_scaled, poly_slope, poly_sum, poly_times, refuse_no_start, worth_at
from stepgrove.trees import knots_within, refuse_no_tree
from stepgrove.wholes import grain_of, pace_of, whole_change, whole_start


def is_change(thing):
    if not isinstance(thing, list) or len(thing) == 0:
        return False
    for some in thing:
        if not is_poly(some, len(thing)):
            return False
    return True


def change_speeds(change, start):
    refuse_no_change(change)
    refuse_no_start(start, len(change))
    return [worth_at(some, start) for some in change]


def bent_change(change, tree):
    refuse_no_change(change)
    refuse_no_tree(tree)
    # Each knot brings one speed in, and with it the pace once.
    part = (1, power_of(pace_of(change, 1), knots_within(tree)))
    return [poly_scaled(some, part) for some in bent_polys(whole_change(change, 1), tree, {})]


def bent_at(change, tree, start):
    refuse_no_change(change)
    refuse_no_tree(tree)
    refuse_no_start(start, len(change))
    grain = grain_of(start)
    bottom = grain * power_of(pace_of(change, grain), knots_within(tree))
    worths = bent_worths(whole_change(change, grain), tree, whole_start(start, grain), {})
    return [fraction_of(worth[0], bottom) for worth in worths]


def refuse_no_change(thing):
    if not is_change(thing):
        raise NoChange("a change is a list of n polynomials in n unknowns, n from 1 on")


def bent_polys(change, tree, known):
    # Many trees have a bough alike, and what it makes of the change is the same in all.
    if tree not in known:
        boughs = [bent_polys(change, bough, known) for bough in tree]
        known[tree] = [along_boughs(some, boughs) for some in change]
    return known[tree]


def along_boughs(some, boughs):
    if len(boughs) == 0:
        return some
    total = []
    for k, place in enumerate(boughs[0]):
        slope = poly_slope(some, k)
        # Most rows of unknowns end early in 0: what lies behind is not walked.
        if len(slope) > 0 and len(place) > 0:
            total = poly_sum(total, poly_times(along_boughs(slope, boughs[1:]), place))
    return total


def bent_worths(change, tree, start, known):
    pushed = change
    # At one start the boughs are plain numbers that no slope moves, so all rows of unknowns are taken at once.
    for k, bough in enumerate(tree):
        # Many trees begin with the same boughs, and what those make of the change is the same in all.
        ahead = tree[:k + 1]
        if ahead not in known:
            speeds = bent_worths(change, bough, start, known)
            known[ahead] = [pushed_by(some, speeds) for some in pushed]
        pushed = known[ahead]
    return [worth_at(some, start) for some in pushed]


def pushed_by(some, speeds):
    total = []
    for k, speed in enumerate(speeds):
        total = poly_sum(total, poly_scaled(poly_slope(some, k), speed))
    return total
