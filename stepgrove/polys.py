"""Polynomials: lists of terms (powers, fraction), greater powers first; and the starts at which they have a worth."""

from stepgrove.errors import NoStart
from stepgrove.fracs import are_fractions, frac_times, frac_total, is_fraction, is_whole, power_of


def poly_sum(one, other):
    return gathered(one + other)


def poly_times(one, other):
    terms = []
    for powers, part in one:
        for more, share in other:
            terms.append((powers_joined(powers, more), (part[0] * share[0], part[1] * share[1])))
    return gathered(terms)


def poly_scaled(some, part):
    if part[0] == 0:
        return []
    return [(powers, frac_times(share, part)) for powers, share in some]


def poly_slope(some, k):
    # All powers of k that stay are lessened alike, so the order of the terms stays too.
    return [(one_less(powers, k), frac_times(part, (powers[k], 1))) for powers, part in some if powers[k] > 0]


def poly_at(some, start):
    # [] is 0 in however many unknowns: a list of any length is a start for it.
    if not are_fractions(start) or (len(some) > 0 and len(start) != len(some[0][0])):
        refuse_start()
    return worth_at(some, start)


def is_poly(thing, unknowns):
    if not isinstance(thing, list):
        return False
    for k, term in enumerate(thing):
        if not is_term(term, unknowns) or (k > 0 and term[0] >= thing[k - 1][0]):
            return False
    return True


def is_term(thing, unknowns):
    if not isinstance(thing, tuple) or len(thing) != 2 or not are_powers(thing[0], unknowns):
        return False
    return is_fraction(thing[1]) and thing[1][0] != 0


def are_powers(thing, unknowns):
    if not isinstance(thing, tuple) or len(thing) != unknowns:
        return False
    for power in thing:
        if not is_whole(power) or power < 0:
            return False
    return True


def refuse_no_start(thing, unknowns):
    if not are_fractions(thing) or len(thing) != unknowns:
        refuse_start()


def refuse_start():
    raise NoStart("a start is a list of as many fractions as there are unknowns")


def one_less(powers, k):
    return powers[:k] + (powers[k] - 1,) + powers[k + 1:]


def powers_joined(powers, more):
    return tuple([power + other for power, other in zip(powers, more)])


def gathered(terms):
    alike = {}
    for powers, part in terms:
        alike.setdefault(powers, []).append(part)
    some = []
    for powers in sorted(alike, reverse=True):
        total = frac_total(alike[powers])
        if total[0] != 0:
            some.append((powers, total))
    return some


def worth_at(some, start):
    return frac_total([term_worth(powers, part, start) for powers, part in some])


def term_worth(powers, part, start):
    top = part[0]
    bottom = part[1]
    for power, place in zip(powers, start):
        top = top * power_of(place[0], power)
        bottom = bottom * power_of(place[1], power)
    return (top, bottom)
