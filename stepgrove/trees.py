"""Trees, told by the tuples of their boughs in falling order, and the lists of all small ones."""

from stepgrove.errors import NoTree, TooMany

MOST_KNOTS = 7


def is_tree(thing):
    if not isinstance(thing, tuple):
        return False
    for k, bough in enumerate(thing):
        # What is like the tree ahead of it is one too: many boughs alike are looked into once.
        if k > 0 and bough == thing[k - 1]:
            continue
        # The bough is looked into ahead of its order: Python can't tell the greater one of all kinds of things.
        if not is_tree(bough) or (k > 0 and bough > thing[k - 1]):
            return False
    return True


def kept_tree(thing):
    if not isinstance(thing, tuple):
        raise NoTree("a tree is made of tuples alone")
    return in_falling_order([kept_tree(bough) for bough in thing])


def tree_knots(tree):
    refuse_no_tree(tree)
    return knots_within(tree)


def tree_density(tree):
    refuse_no_tree(tree)
    return density_within(tree)


def tree_turns(tree):
    refuse_no_tree(tree)
    return turns_within(tree)


def tree_ways(tree):
    refuse_no_tree(tree)
    return product_up_to(knots_within(tree)) // (density_within(tree) * turns_within(tree))


def trees_of(many):
    if many < 1 or many > MOST_KNOTS:
        raise TooMany("trees are listed for 1 to 7 knots")
    trees = [()]
    for knots in range(1, many):
        larger = []
        for tree in trees:
            larger.extend(trees_one_larger(tree))
        # One tree may grow out of several ones, or out of one in several places.
        trees = sorted(set(larger))
    return trees


def trees_to(most):
    if most < 0 or most > MOST_KNOTS:
        raise TooMany("trees are listed up to 0 to 7 knots")
    trees = []
    for many in range(1, most + 1):
        trees.extend(trees_of(many))
    return trees


def refuse_no_tree(thing):
    if not is_tree(thing):
        raise NoTree("a tree is told by the tuple of its boughs in falling order")


def in_falling_order(boughs):
    return tuple(sorted(boughs, reverse=True))


# The functions below ask for a tree that has been looked at: looking again at each bough would cost more than they do.


def knots_within(tree):
    return 1 + sum([knots_within(bough) for bough in tree])


def density_within(tree):
    density = knots_within(tree)
    for bough in tree:
        density = density * density_within(bough)
    return density


def turns_within(tree):
    turns = 1
    alike = 0
    for k, bough in enumerate(tree):
        # Boughs that are alike stand side by side, as the order is falling.
        if k > 0 and bough == tree[k - 1]:
            alike = alike + 1
        else:
            alike = 1
        turns = turns * alike * turns_within(bough)
    return turns


def product_up_to(many):
    product = 1
    for factor in range(2, many + 1):
        product = product * factor
    return product


def parents_within(tree):
    # For each knot but the root, which is 0, the number of the one that it stands on; a bough's knots follow its own.
    parents = []
    for bough in tree:
        number = len(parents) + 1
        parents.append(0)
        parents.extend([number + parent for parent in parents_within(bough)])
    return parents


def trees_one_larger(tree):
    larger = [in_falling_order(tree + ((),))]
    for k, bough in enumerate(tree):
        for grown in trees_one_larger(bough):
            larger.append(in_falling_order(tree[:k] + (grown,) + tree[k + 1:]))
    return larger
