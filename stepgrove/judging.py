"""Papers that tell a table's order, and the judge of them, who weighs trees by walking all ways alone."""

from stepgrove.errors import TooMany
from stepgrove.fracs import frac_times, frac_total, is_fraction, is_whole
from stepgrove.orders import MOST_ORDER, table_order
from stepgrove.tables import refuse_no_table
from stepgrove.trees import density_within, parents_within, trees_of, trees_to
from stepgrove.weights import weights_under

MOST_JUDGED_ROWS = 5


def order_paper(table):
    refuse_no_judging(table)
    told = table_order(table)
    odd = None
    if told[1] is not None:
        odd = lines_of(table, [told[1]])[0]
    return (told[0], lines_of(table, trees_to(told[0])), odd)


def judge_paper(table, paper):
    refuse_no_judging(table)
    if not isinstance(paper, tuple) or len(paper) != 3:
        return False
    order = paper[0]
    if not is_whole(order) or order < 0 or order > MOST_ORDER:
        return False
    return are_true_lines(table, trees_to(order), paper[1]) and is_due_odd(table, order, paper[2])


def refuse_no_judging(table):
    refuse_no_table(table)
    if len(table[0]) > MOST_JUDGED_ROWS:
        raise TooMany("papers are told and judged of tables of at most five rows")


def lines_of(table, trees):
    return list(zip(trees, weights_under(table, trees)))


def are_true_lines(table, trees, lines):
    if not isinstance(lines, list) or len(lines) != len(trees):
        return False
    for tree, line in zip(trees, lines):
        if not is_line(line, [tree]) or line[1] != (1, density_within(tree)) or line[1] != walked_weight(table, tree):
            return False
    return True


def is_due_odd(table, order, odd):
    if order == MOST_ORDER:
        return odd is None
    if not is_line(odd, trees_of(order + 1)) or odd[1] == (1, density_within(odd[0])):
        return False
    return odd[1] == walked_weight(table, odd[0])


def is_line(thing, trees):
    if not isinstance(thing, tuple) or len(thing) != 2:
        return False
    return thing[0] in trees and is_fraction(thing[1])


def walked_weight(table, tree):
    ways = [((k,), part) for k, part in enumerate(table[1])]
    for parent in parents_within(tree):
        longer = []
        for way, share in ways:
            # On a row that the lower knot's row doesn't read the way would weigh 0: it ends here.
            for k, part in enumerate(table[0][way[parent]]):
                longer.append((way + (k,), frac_times(share, part)))
        ways = longer
    return frac_total([share for way, share in ways])
