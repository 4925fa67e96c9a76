"""Things of every kind that may be handed in, and how a function is to take them."""

import copy

from stepgrove.errors import GroveError


def nested(thing, depth, wrap):
    for _ in range(depth):
        thing = wrap(thing)
    return thing


def odd_things():
    return [
        None, True, False, 0, 1, -1, 10 ** 30, "", "()", "(1, 2)", "a\nb", "x" * 2000,
        [], [[]], [()], [1, 2], [(1, 2)], [None], [0] * 400,
        (0,), (None,), (True,), ("",), ([],), ((), []), ((), ""), ((), None), ((), False), ((), 0),
        (0, ()), (None, ()), ([], ()), ("", ()), ((1,), ("a",)), ((None,), (1,)), (([],), (0,)),
        ("a", 1), (1, "a"), (None, None), ([1], [2]), (1, 2, 3, "a"),
        nested([], 19, lambda inner: [inner]),
        nested([], 19, lambda inner: (inner,)),
        nested(0, 20, lambda inner: (inner,)),
        tuple([0] * 400),
        tuple([()] * 399 + [[]]),
    ]


def no_trees():
    pair = ((),)
    fork = ((), ())
    chain = (((),),)
    return odd_things() + [
        ((), pair), (pair, fork), (fork, chain), (pair, (), pair), (((), pair),), (chain, (pair, ())),
        ((pair, ((), pair)),), (pair, (), []), [()], [[], []], ((), [()]), (((), (((), ((),)),)),),
    ]


def no_fractions():
    return [
        None, True, False, 0, 1, "1/2", "", (), [], [1, 2], (1,), (1, 2, 3), (2, 4), (0, 2), (1, 0), (0, 0), (1, -2),
        (True, 1), (1, True), (False, 1), (True, 2), ("1", "2"), (None, 1), (1, None), ((1, 2),), ((1, 1), (1, 1)),
        (10 ** 40, 10 ** 41), [(1, 2)],
    ]


def no_starts(unknowns):
    """Things that are no list of so many fractions."""
    good = [(1, 2)] * unknowns
    things = [thing for thing in odd_things() if thing != []]
    things = things + [tuple(good), good + [(0, 1)], good[1:], good * 2, good[0], [good], [tuple(good)], "1/2"]
    if unknowns > 0:
        things.append([])
    for thing in no_fractions():
        for k in range(unknowns):
            things.append(good[:k] + [thing] + good[k + 1:])
    return [thing for thing in things if not (isinstance(thing, list) and thing == good)]


def no_changes():
    """Things that are no change, many of them but one step from a good one."""
    one = (1, 1)
    flat = [((1,), one)]
    things = [thing for thing in odd_things() if thing != [[]]] + [
        # lists and tuples in each other's places
        (flat,), [tuple(flat)], [[[(1,), one]]], [[([1], one)]], [[((1,), [1, 1])]], flat, flat[0], [[flat]],
        # a polynomial too many or too few
        [flat, flat], [[], []] + [flat], [[((1, 0), one)]], [[((1, 0), one)]] * 3, [[], [((1,), one)]],
        [[((), one)]], [[((1, 0, 0), one)], []],
        # terms of another form
        [[()]], [[((1,),)]], [[((1,), one, one)]], [[(one, (1,))]], [[((1,), one), None]], [[None]], [[1]], [["x"]],
        [None], [True], [flat, None], [[((1, 1), one)], 0], ["ab"], ["a"], [["ab"]], [[((1,), one), ()]],
        # powers
        [[((-1,), one)]], [[((True,), one)]], [[((False,), one)]], [[((None,), one)]], [[(("1",), one)]],
        [[(((1,),), one)]], [[(1, one)]], [[(None, one)]], [[((1, -1), one)], []], [[((1, True), one)], []],
        [[], [((False, 0), one)]], [[((-10 ** 30,), one)]],
        # powers twice or in the wrong order
        [[((1,), one), ((1,), one)]], [[((1,), one), ((1,), (-1, 1))]], [[((0,), one), ((1,), one)]],
        [[((2,), one), ((0,), one), ((1,), one)]], [[((0, 1), one), ((1, 0), one)], []],
        [[((1, 0), one), ((1, 0), one)], []], [[], [((1, 0), one), ((0, 1), one), ((0, 2), one)]],
        [[((3,), one), ((2,), one), ((2,), one), ((1,), one)]],
        # fractions
        [[((1,), (0, 1))]], [[((1,), one), ((0,), (0, 1))]], [[((1, 1), one)], [((0, 0), (0, 1))]],
    ]
    for thing in no_fractions():
        things.append([[((1,), thing)]])
        things.append([[((1, 0), one)], [((1, 1), one), ((0, 0), thing)]])
    return things


def good_changes():
    big = 10 ** 39 + 7
    return [
        [[]],
        [[], []],
        [[], [], [], []],
        [[((0,), (1, 1))]],
        [[((1,), (1, 1))]],
        [[((2,), (1, 1)), ((1,), (-2, 3)), ((0,), (1, 2))]],
        [[((30,), (-big, big + 1)), ((29,), (1, big)), ((0,), (big, 1))]],
        [[((0, 1), (1, 1))], [((1, 0), (-1, 1))]],
        [[((1, 1), (1, 2)), ((0, 30), (3, 1))], []],
        [[((1, 0), (1, 1)), ((0, 2), (1, 1)), ((0, 1), (1, 1)), ((0, 0), (1, 1))], [((0, 10), (5, 7))]],
        [[((0, 0, 0, 0), (1, 1))], [((1, 1, 1, 0), (2, 1))], [], [((3, 0, 0, 0), (-1, 6)), ((0, 0, 0, 3), (1, 6))]],
        [[((0,) * k + (1,) + (0,) * (11 - k), (1, k + 1))] for k in range(12)],
        [[((power,), (1, power + 1)) for power in range(399, -1, -1)]],
    ]


def refused(case, kind, ask, *handed):
    """The call is refused with just this class, and leaves what was handed in as it was."""
    before = copy.deepcopy(handed)
    with case.assertRaises(GroveError) as caught:
        ask(*handed)
    case.assertIs(type(caught.exception), kind)
    case.assertIsInstance(caught.exception, ValueError)
    case.assertEqual(kind.__bases__, (GroveError,))
    case.assertEqual(handed, before)


def own_answer(case, ask, *handed):
    """What is told is the asker's own: spoiling it, or what was handed in, changes no other answer."""
    before = copy.deepcopy(handed)
    told = ask(*handed)
    kept = copy.deepcopy(told)
    case.assertEqual(handed, before)
    other = ask(*handed)
    spoil(told)
    case.assertEqual(other, kept)
    case.assertEqual(handed, before)
    case.assertEqual(ask(*handed), kept)
    for thing in handed:
        spoil(thing)
    case.assertEqual(other, kept)
    case.assertEqual(ask(*before), kept)
    lists = lists_within(other)
    case.assertEqual(len(set(id(some) for some in lists)), len(lists))


def lists_within(thing):
    found = [thing] if isinstance(thing, list) else []
    if isinstance(thing, (list, tuple)):
        for part in thing:
            found = found + lists_within(part)
    return found


def spoil(thing):
    for some in lists_within(thing):
        some.reverse()
        some.append("mine")
        some[0] = None
