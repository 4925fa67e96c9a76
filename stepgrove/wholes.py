"""Changes, starts and tables brought to whole numbers, as fractions in lowest terms at every step would cost too much.

The numbers that move are counted in parts, grain of which make 1, and the time in parts, pace of which make 1: then
the start and all fractions of the change are whole. What comes out of k speeds multiplied together and counts parts
of a number is pace k times and grain once too great. A table's fractions are put over one bottom.
"""

from stepgrove.fracs import common_bottom, power_of


def grain_of(start):
    return common_bottom([place[1] for place in start])


def pace_of(change, grain):
    # A speed's terms of the greatest power are grain as often too small as that power tells, less the one of the speed.
    return speeds_bottom(change) * power_of(grain, greatest_power(change) - 1)


def whole_start(start, grain):
    return [(top, 1) for top in tops_over(start, grain)]


def tops_over(some, bottom):
    return [part[0] * (bottom // part[1]) for part in some]


def table_bottom(table):
    bottoms = [part[1] for part in table[1]]
    for row in table[0]:
        bottoms.extend([part[1] for part in row])
    return common_bottom(bottoms)


def whole_change(change, grain):
    bottom = speeds_bottom(change)
    greatest = greatest_power(change)
    return [whole_poly(some, bottom, grain, greatest) for some in change]


def whole_poly(some, bottom, grain, greatest):
    terms = []
    for powers, part in some:
        top = part[0] * (bottom // part[1]) * power_of(grain, greatest - sum(powers))
        terms.append((powers, (top, 1)))
    return terms


def speeds_bottom(change):
    bottoms = []
    for some in change:
        bottoms.extend([part[1] for powers, part in some])
    return common_bottom(bottoms)


def greatest_power(change):
    # 1 at least, as the speeds count parts too, also those that stay as they are.
    greatest = 1
    for some in change:
        for powers, part in some:
            greatest = max(greatest, sum(powers))
    return greatest
