"""Exact fractions: tuples (top, bottom) in lowest terms, the bottom 1 or more."""

from stepgrove.errors import NoBottom


def fraction_of(top, bottom):
    if bottom == 0:
        raise NoBottom("the bottom of a fraction is not 0")
    shared = greatest_divisor(top, bottom)
    # Taking out a divisor below 0 turns both signs, so the bottom ends above 0.
    if bottom < 0:
        shared = -shared
    return (top // shared, bottom // shared)


def frac_sum(one, other):
    return fraction_of(one[0] * other[1] + other[0] * one[1], one[1] * other[1])


def frac_less(one, other):
    return fraction_of(one[0] * other[1] - other[0] * one[1], one[1] * other[1])


def frac_times(one, other):
    return fraction_of(one[0] * other[0], one[1] * other[1])


def frac_by(one, other):
    # A second fraction of 0 gives the bottom 0, which fraction_of refuses.
    return fraction_of(one[0] * other[1], one[1] * other[0])


def is_fraction(thing):
    if not isinstance(thing, tuple) or len(thing) != 2:
        return False
    if not is_whole(thing[0]) or not is_whole(thing[1]):
        return False
    return thing[1] >= 1 and greatest_divisor(thing[0], thing[1]) == 1


def are_fractions(thing):
    if not isinstance(thing, list):
        return False
    for part in thing:
        if not is_fraction(part):
            return False
    return True


def is_whole(thing):
    # Python counts True and False among the whole numbers; here they are none.
    return isinstance(thing, int) and not isinstance(thing, bool)


def greatest_divisor(one, other):
    greater = abs(one)
    lesser = abs(other)
    while lesser != 0:
        rest = greater % lesser
        greater = lesser
        lesser = rest
    return greater


def common_bottom(bottoms):
    common = 1
    for bottom in bottoms:
        common = common // greatest_divisor(common, bottom) * bottom
    return common


def frac_total(some):
    # Put over one bottom, many fractions are brought to lowest terms but once, which costs far more than the sum does.
    bottom = common_bottom([part[1] for part in some])
    return fraction_of(sum([part[0] * (bottom // part[1]) for part in some]), bottom)


def power_of(base, power):
    product = 1
    square = base
    left = power
    while left > 0:
        if left % 2 == 1:
            product = product * square
        left = left // 2
        # The last square would be the greatest by far, and nothing would ask for it.
        if left > 0:
            square = square * square
    return product
