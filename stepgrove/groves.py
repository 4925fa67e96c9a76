"""Groves: weighed trees, and the rows that they tell of a change and a start, power by power."""

from stepgrove.changes import bent_worths, refuse_no_change
from stepgrove.fracs import common_bottom, fraction_of
from stepgrove.polys import refuse_no_start
from stepgrove.trees import trees_of, turns_within
from stepgrove.weights import weighing_reach
from stepgrove.wholes import grain_of, pace_of, tops_over, whole_change, whole_start


def grove_rows(change, start, weighing):
    refuse_no_change(change)
    refuse_no_start(start, len(change))
    reach = weighing_reach(weighing)
    grain = grain_of(start)
    moving = whole_change(change, grain)
    begin = whole_start(start, grain)
    pace = pace_of(change, grain)
    rows = [[place] for place in start]
    known = {}
    left = weighing
    # Each knot brings one speed in, and with it the pace once.
    bottom = grain
    for knots in range(1, reach + 1):
        trees = trees_of(knots)
        bends = [bent_worths(moving, tree, begin, known) for tree in trees]
        bottom = bottom * pace
        sums = shared_sums(shares_of(trees, left), bends, bottom)
        rows = [row + [part] for row, part in zip(rows, sums)]
        left = left[len(trees):]
    return rows


def shares_of(trees, weights):
    return [(weight[0], weight[1] * turns_within(tree)) for tree, weight in zip(trees, weights)]


def shared_sums(shares, bends, bottom):
    common = common_bottom([share[1] for share in shares])
    totals = [0] * len(bends[0])
    for top, worths in zip(tops_over(shares, common), bends):
        totals = [total + top * worth[0] for total, worth in zip(totals, worths)]
    return [fraction_of(total, common * bottom) for total in totals]
