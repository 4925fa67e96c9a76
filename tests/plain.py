"""The document's words reckoned out in another way: by knots one by one, and with Python's own fractions."""

import itertools
import random
from fractions import Fraction

from stepgrove.tables import table_of

from things import WEIGHING_LENGTHS


def shape(parents):
    def at(knot):
        boughs = [at(k + 1) for k, parent in enumerate(parents) if parent == knot]
        return tuple(sorted(boughs, reverse=True))
    return at(0)


def parents_of(tree):
    parents = []

    def hang(boughs, knot):
        for bough in boughs:
            parents.append(knot)
            hang(bough, len(parents))
    hang(tree, 0)
    return parents


def ways_down(parents, knot):
    """The knots on the way from a knot's foot to the root, the root last."""
    way = []
    while knot != 0:
        knot = parents[knot - 1]
        way.append(knot)
    return way


def tree_at(parents, root, without):
    """The tree of what stands above a knot, less all that stands on or above others."""
    knots = range(1, len(parents) + 1)
    kept = [root]
    for knot in knots:
        way = [knot] + ways_down(parents, knot)
        if knot != root and root in way and not any(other in way for other in without):
            kept.append(knot)
    return shape([kept.index(parents[knot - 1]) for knot in kept[1:]])


def ties_by_knots(tree):
    parents = parents_of(tree)
    knots = range(1, len(parents) + 1)
    return sorted((tree_at(parents, 0, [knot]), tree_at(parents, knot, [])) for knot in knots)


def cuts_by_knots(tree):
    parents = parents_of(tree)
    knots = range(1, len(parents) + 1)
    cuts = []
    for many in range(len(parents) + 1):
        for taken in itertools.combinations(knots, many):
            if any(knot in ways_down(parents, other) for knot in taken for other in taken):
                continue
            parts = sorted([tree_at(parents, knot, []) for knot in taken], reverse=True)
            cuts.append((tree_at(parents, 0, taken), parts))
    return [(None, [tree])] + sorted(cuts)


def told(number):
    return (number.numerator, number.denominator)


def told_poly(some):
    return [(powers, told(some[powers])) for powers in sorted(some, reverse=True) if some[powers] != 0]


def plain_poly(some):
    return {powers: Fraction(*part) for powers, part in some}


def plain_sum(one, other):
    return {powers: one.get(powers, 0) + other.get(powers, 0) for powers in set(one) | set(other)}


def plain_times(one, other):
    product = {}
    for powers, part in one.items():
        for more, share in other.items():
            joined = tuple(left + right for left, right in zip(powers, more))
            product[joined] = product.get(joined, 0) + part * share
    return product


def plain_slope(some, k):
    slope = {}
    for powers, part in some.items():
        lower = list(powers)
        lower[k] = lower[k] - 1
        if lower[k] >= 0:
            slope[tuple(lower)] = part * powers[k]
    return slope


def plain_at(some, start):
    total = Fraction(0)
    for powers, part in some.items():
        for power, place in zip(powers, start):
            part = part * place ** power
        total = total + part
    return total


def plain_bent(change, tree):
    """Straight by point 12: over all rows of unknowns."""
    if tree == ():
        return change
    unknowns = range(len(change))
    boughs = [plain_bent(change, bough) for bough in tree]
    bent = []
    for some in change:
        total = {}
        for row in itertools.product(unknowns, repeat=len(tree)):
            product = some
            for k in row:
                product = plain_slope(product, k)
            for k, bough in zip(row, boughs):
                product = plain_times(product, bough[k])
            total = plain_sum(total, product)
        bent.append(total)
    return bent


def rows_times(one, other):
    """Two sums in h multiplied out, as far as both reach."""
    return [sum(one[j] * other[k - j] for j in range(k + 1)) for k in range(len(one))]


def put_into(some, rows):
    """A polynomial's sum in h where its unknowns are the rows."""
    total = [Fraction(0)] * len(rows[0])
    for powers, part in some:
        product = [Fraction(*part)] + [Fraction(0)] * (len(rows[0]) - 1)
        for power, row in zip(powers, rows):
            for _ in range(power):
                product = rows_times(product, row)
        total = [left + right for left, right in zip(total, product)]
    return total


def plain_step(table, change, start, length):
    """Straight by point 15."""
    rows, last = table
    polys = [plain_poly(some) for some in change]
    begin = [Fraction(*place) for place in start]

    def led(row, speeds):
        place = list(begin)
        for part, there in zip(row, speeds):
            for k, speed in enumerate(there):
                place[k] = place[k] + Fraction(*length) * Fraction(*part) * speed
        return place

    speeds = []
    for row in rows:
        place = led(row, speeds)
        speeds.append([plain_at(some, place) for some in polys])
    return [told(number) for number in led(last, speeds)]


def plain_step_rows(table, change, start, reach):
    """The same with h left standing: all sums in h are kept up to the power reach, and what lies above is cut."""
    begin = [[Fraction(*place)] + [Fraction(0)] * reach for place in start]
    return [[told(number) for number in row] for row in plain_step_on(table, change, begin)]


def plain_step_on(table, change, begin):
    """Such a step from a place that itself is told by sums in h."""
    rows, last = table

    def led(row, speeds):
        places = [list(place) for place in begin]
        for part, there in zip(row, speeds):
            for place, speed in zip(places, there):
                for k in range(len(place) - 1):
                    place[k + 1] = place[k + 1] + Fraction(*part) * speed[k]
        return places

    speeds = []
    for row in rows:
        places = led(row, speeds)
        speeds.append([put_into(some, places) for some in change])
    return led(last, speeds)


def plain_weight(table, tree):
    """Straight by point 16: over all ways to put the knots on rows."""
    rows, last = table
    parents = parents_of(tree)
    total = Fraction(0)
    for way in itertools.product(range(len(rows)), repeat=len(parents) + 1):
        product = Fraction(*last[way[0]])
        for knot, parent in enumerate(parents, start=1):
            reader = rows[way[parent]]
            if product == 0 or way[knot] >= len(reader):
                product = Fraction(0)
                break
            product = product * Fraction(*reader[way[knot]])
        total = total + product
    return told(total)


def plain_grove(change, start, weights):
    """Straight by point 17, of tuples (tree, knots, turns, weight)."""
    polys = [plain_poly(some) for some in change]
    begin = [Fraction(*place) for place in start]
    rows = [[place] + [Fraction(0)] * max([0] + [knots for _, knots, _, _ in weights]) for place in begin]
    for tree, knots, turns, weight in weights:
        for row, some in zip(rows, plain_bent(polys, tree)):
            row[knots] = row[knots] + Fraction(*weight) / turns * plain_at(some, begin)
    return [[told(number) for number in row] for row in rows]


def plain_order(table, trees, most):
    """The order by walking all ways, of tuples (tree, knots, density) in the order of the trees."""
    for tree, knots, density in trees:
        if knots <= most and plain_weight(table, tree) != (1, density):
            return (knots - 1, tree)
    return (most, None)


def plain_parting(tree):
    """Each knot is told by the way that leads to it from the root; put in order these ways number the unknowns."""
    ways = []

    def walk(boughs, way):
        ways.append(way)
        for k, bough in enumerate(boughs):
            walk(bough, way + (k,))
    walk(tree, ())
    ways = sorted(ways)
    change = []
    for way in ways:
        powers = tuple(1 if other and other[:-1] == way else 0 for other in ways)
        change.append([(powers, (1, 1))])
    return (change, [(0, 1)] * len(ways))


def some_table(chance, rows, figures):
    reading = [[some_fraction(chance, figures) for _ in range(k)] for k in range(rows)]
    return (reading, [some_fraction(chance, figures) for _ in range(rows)])


def tables_behind(tables):
    """One step behind another: each row also reads what the tables ahead of its own lead to."""
    rows = []
    last = []
    for reading, ends in tables:
        rows = rows + [last + row for row in reading]
        last = last + ends
    return (rows, last)


def some_fraction(chance, figures):
    return told(Fraction(chance.choice((-1, 1)) * chance.randint(1, figures), chance.randint(1, figures)))


def some_change(chance, unknowns, terms, greatest, figures):
    every = [row for row in itertools.product(range(greatest + 1), repeat=unknowns) if sum(row) <= greatest]
    change = []
    for _ in range(unknowns):
        taken = sorted(chance.sample(every, min(terms, len(every))), reverse=True)
        change.append([(powers, some_fraction(chance, figures)) for powers in taken])
    return change


def some_start(chance, unknowns, figures):
    return [some_fraction(chance, figures) for _ in range(unknowns)]


def some_weighing(chance, most, figures):
    return some_start(chance, WEIGHING_LENGTHS[most], figures)


def some_weighings(seed, figures):
    """For each reach one of any fractions, and one with noughts between them."""
    chance = chances(seed)
    found = []
    for most in range(8):
        weighing = some_weighing(chance, most, figures)
        found.append(weighing)
        found.append([chance.choice(((0, 1), weight)) for weight in weighing])
    return found


def some_tables():
    """The named tables, others of one row to five, and two that lead nowhere."""
    chance = chances(1)
    tables = [table_of(name) for name in ("plain", "middle", "heel", "third", "fourth")]
    tables = tables + [some_table(chance, rows, 9) for rows in (1, 2, 3, 4, 5)]
    return tables + [([[]], [(0, 1)]), ([[], [(0, 1)]], [(0, 1), (0, 1)])]


def chances(seed):
    return random.Random(seed)
