"""True growth: the one way in which numbers move with the speeds of a change, power by power."""

from stepgrove.changes import refuse_no_change
from stepgrove.errors import TooMany
from stepgrove.fracs import fraction_of
from stepgrove.polys import one_less, refuse_no_start
from stepgrove.trees import product_up_to
from stepgrove.wholes import grain_of, pace_of, whole_change, whole_start

MOST_POWER = 7


def growth_rows(change, start, most):
    refuse_no_change(change)
    refuse_no_start(start, len(change))
    refuse_too_many(most)
    grain = grain_of(start)
    # The power k + 1 comes of k by a division by k + 1: with a time cut this much finer it leaves no rest.
    finer = product_up_to(most)
    rows = whole_rows(whole_change(change, grain), whole_start(start, grain), most, finer)
    pace = pace_of(change, grain) * finer
    return [row_of_fractions(row, pace, grain) for row in rows]


def refuse_too_many(most):
    if most < 0 or most > MOST_POWER:
        raise TooMany("rows are told up to the powers 0 to 7")


def row_of_fractions(row, pace, grain):
    fractions = []
    bottom = grain
    for number in row:
        fractions.append(fraction_of(number, bottom))
        bottom = bottom * pace
    return fractions


def whole_rows(change, start, most, finer):
    rows = [[place[0]] for place in start]
    order = powers_needed(change)
    products = {}
    for powers in order:
        products[powers] = []
    for k in range(most):
        for powers in order:
            products[powers].append(product_at(products, rows, powers, k))
        speeds = [speed_at(some, products, k) for some in change]
        rows = [row + [speed * (finer // (k + 1))] for row, speed in zip(rows, speeds)]
    return rows


def powers_needed(change):
    needed = {}
    for some in change:
        for powers, part in some:
            lower = powers
            while lower not in needed:
                needed[lower] = True
                if sum(lower) > 0:
                    lower = one_less(lower, first_unknown(lower))
    # Each product is made of one with a power less, which must stand ahead of it.
    return sorted(needed, key=sum)


def first_unknown(powers):
    k = 0
    while powers[k] == 0:
        k = k + 1
    return k


def product_at(products, rows, powers, k):
    if sum(powers) == 0:
        return 1 if k == 0 else 0
    unknown = first_unknown(powers)
    lower = products[one_less(powers, unknown)]
    return sum([lower[j] * rows[unknown][k - j] for j in range(k + 1)])


def speed_at(some, products, k):
    return sum([part[0] * products[powers][k] for powers, part in some])
