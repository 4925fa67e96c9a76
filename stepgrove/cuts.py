"""Ties and cuts: what is left of a tree and what comes off where boughs are cut."""

from stepgrove.trees import in_falling_order, refuse_no_tree


def tree_ties(tree):
    refuse_no_tree(tree)
    return sorted(ties_within(tree))


def tree_cuts(tree):
    refuse_no_tree(tree)
    return [(None, [tree])] + sorted(cuts_within(tree))


# The functions below ask for a tree that has been looked at.


def ties_within(tree):
    ties = []
    for k, bough in enumerate(tree):
        ties.append((tree[:k] + tree[k + 1:], bough))
        for trunk, part in ties_within(bough):
            ties.append((in_falling_order(tree[:k] + (trunk,) + tree[k + 1:]), part))
    return ties


def cuts_within(tree):
    cuts = [((), [])]
    for bough in tree:
        wider = []
        for left, parts in cuts:
            # A bough cut off at its own tie is not cut again above it.
            wider.append((left, parts + [bough]))
            for trunk, more in cuts_within(bough):
                wider.append((left + (trunk,), parts + more))
        cuts = wider
    return [(in_falling_order(left), sorted(parts, reverse=True)) for left, parts in cuts]
