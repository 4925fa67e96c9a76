"""The document's words reckoned out in another way: by knots one by one, and with Python's own fractions."""

import itertools
import random
from fractions import Fraction


def shape(parents):
    def at(knot):
        boughs = [at(k + 1) for k, parent in enumerate(parents) if parent == knot]
        return tuple(sorted(boughs, reverse=True))
    return at(0)


def parents_of(tree):
    parents = []

    def hang(boughs, knot):
        for bough in boughs:
            parents.append(knot)
            hang(bough, len(parents))
    hang(tree, 0)
    return parents


def told(number):
    return (number.numerator, number.denominator)


def told_poly(some):
    return [(powers, told(some[powers])) for powers in sorted(some, reverse=True) if some[powers] != 0]


def plain_poly(some):
    return {powers: Fraction(*part) for powers, part in some}


def plain_sum(one, other):
    return {powers: one.get(powers, 0) + other.get(powers, 0) for powers in set(one) | set(other)}


def plain_times(one, other):
    product = {}
    for powers, part in one.items():
        for more, share in other.items():
            joined = tuple(left + right for left, right in zip(powers, more))
            product[joined] = product.get(joined, 0) + part * share
    return product


def plain_slope(some, k):
    slope = {}
    for powers, part in some.items():
        lower = list(powers)
        lower[k] = lower[k] - 1
        if lower[k] >= 0:
            slope[tuple(lower)] = part * powers[k]
    return slope


def plain_at(some, start):
    total = Fraction(0)
    for powers, part in some.items():
        for power, place in zip(powers, start):
            part = part * place ** power
        total = total + part
    return total


def plain_bent(change, tree):
    """Straight by point 12: over all rows of unknowns."""
    if tree == ():
        return change
    unknowns = range(len(change))
    boughs = [plain_bent(change, bough) for bough in tree]
    bent = []
    for some in change:
        total = {}
        for row in itertools.product(unknowns, repeat=len(tree)):
            product = some
            for k in row:
                product = plain_slope(product, k)
            for k, bough in zip(row, boughs):
                product = plain_times(product, bough[k])
            total = plain_sum(total, product)
        bent.append(total)
    return bent


def some_fraction(chance, figures):
    return told(Fraction(chance.choice((-1, 1)) * chance.randint(1, figures), chance.randint(1, figures)))


def some_change(chance, unknowns, terms, greatest, figures):
    every = [row for row in itertools.product(range(greatest + 1), repeat=unknowns) if sum(row) <= greatest]
    change = []
    for _ in range(unknowns):
        taken = sorted(chance.sample(every, min(terms, len(every))), reverse=True)
        change.append([(powers, some_fraction(chance, figures)) for powers in taken])
    return change


def some_start(chance, unknowns, figures):
    return [some_fraction(chance, figures) for _ in range(unknowns)]


def chances(seed):
    return random.Random(seed)
