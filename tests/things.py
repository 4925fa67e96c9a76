"""Things of every kind that may be handed in, and how a function is to take them."""

import copy

from stepgrove.errors import GroveError


def nested(thing, depth, wrap):
    for _ in range(depth):
        thing = wrap(thing)
    return thing


def odd_things():
    return [
        None, True, False, 0, 1, -1, 10 ** 30, "", "()", "(1, 2)", "a\nb", "x" * 2000,
        [], [[]], [()], [1, 2], [(1, 2)], [None], [0] * 400,
        (0,), (None,), (True,), ("",), ([],), ((), []), ((), ""), ((), None), ((), False), ((), 0),
        (0, ()), (None, ()), ([], ()), ("", ()), ((1,), ("a",)), ((None,), (1,)), (([],), (0,)),
        ("a", 1), (1, "a"), (None, None), ([1], [2]), (1, 2, 3, "a"),
        nested([], 19, lambda inner: [inner]),
        nested([], 19, lambda inner: (inner,)),
        nested(0, 20, lambda inner: (inner,)),
        tuple([0] * 400),
        tuple([()] * 399 + [[]]),
    ]


def no_trees():
    pair = ((),)
    fork = ((), ())
    chain = (((),),)
    return odd_things() + [
        ((), pair), (pair, fork), (fork, chain), (pair, (), pair), (((), pair),), (chain, (pair, ())),
        ((pair, ((), pair)),), (pair, (), []), [()], [[], []], ((), [()]), (((), (((), ((),)),)),),
    ]


def no_fractions():
    return [
        None, True, False, 0, 1, "1/2", "", (), [], [1, 2], (1,), (1, 2, 3), (2, 4), (0, 2), (1, 0), (0, 0), (1, -2),
        (True, 1), (1, True), (False, 1), (True, 2), ("1", "2"), (None, 1), (1, None), ((1, 2),), ((1, 1), (1, 1)),
        (10 ** 40, 10 ** 41), [(1, 2)],
    ]


def no_starts(unknowns):
    """Things that are no list of so many fractions."""
    good = [(1, 2)] * unknowns
    things = [thing for thing in odd_things() if thing != []]
    things = things + [tuple(good), good + [(0, 1)], good[1:], good * 2, good[0], [good], [tuple(good)], "1/2"]
    if unknowns > 0:
        things.append([])
    for thing in no_fractions():
        for k in range(unknowns):
            things.append(good[:k] + [thing] + good[k + 1:])
    return [thing for thing in things if not (isinstance(thing, list) and thing == good)]


def no_changes():
    """Things that are no change, many of them but one step from a good one."""
    one = (1, 1)
    flat = [((1,), one)]
    things = [thing for thing in odd_things() if thing != [[]]] + [
        # lists and tuples in each other's places
        (flat,), [tuple(flat)], [[[(1,), one]]], [[([1], one)]], [[((1,), [1, 1])]], flat, flat[0], [[flat]],
        # a polynomial too many or too few
        [flat, flat], [[], []] + [flat], [[((1, 0), one)]], [[((1, 0), one)]] * 3, [[], [((1,), one)]],
        [[((), one)]], [[((1, 0, 0), one)], []],
        # terms of another form
        [[()]], [[((1,),)]], [[((1,), one, one)]], [[(one, (1,))]], [[((1,), one), None]], [[None]], [[1]], [["x"]],
        [None], [True], [flat, None], [[((1, 1), one)], 0], ["ab"], ["a"], [["ab"]], [[((1,), one), ()]],
        # powers
        [[((-1,), one)]], [[((True,), one)]], [[((False,), one)]], [[((None,), one)]], [[(("1",), one)]],
        [[(((1,),), one)]], [[(1, one)]], [[(None, one)]], [[((1, -1), one)], []], [[((1, True), one)], []],
        [[], [((False, 0), one)]], [[((-10 ** 30,), one)]],
        # powers twice or in the wrong order
        [[((1,), one), ((1,), one)]], [[((1,), one), ((1,), (-1, 1))]], [[((0,), one), ((1,), one)]],
        [[((2,), one), ((0,), one), ((1,), one)]], [[((0, 1), one), ((1, 0), one)], []],
        [[((1, 0), one), ((1, 0), one)], []], [[], [((1, 0), one), ((0, 1), one), ((0, 2), one)]],
        [[((3,), one), ((2,), one), ((2,), one), ((1,), one)]],
        # fractions
        [[((1,), (0, 1))]], [[((1,), one), ((0,), (0, 1))]], [[((1, 1), one)], [((0, 0), (0, 1))]],
    ]
    for thing in no_fractions():
        things.append([[((1,), thing)]])
        things.append([[((1, 0), one)], [((1, 1), one), ((0, 0), thing)]])
    return things


def good_changes():
    big = 10 ** 39 + 7
    return [
        [[]],
        [[], []],
        [[], [], [], []],
        [[((0,), (1, 1))]],
        [[((1,), (1, 1))]],
        [[((2,), (1, 1)), ((1,), (-2, 3)), ((0,), (1, 2))]],
        [[((30,), (-big, big + 1)), ((29,), (1, big)), ((0,), (big, 1))]],
        [[((0, 1), (1, 1))], [((1, 0), (-1, 1))]],
        [[((1, 1), (1, 2)), ((0, 30), (3, 1))], []],
        [[((1, 0), (1, 1)), ((0, 2), (1, 1)), ((0, 1), (1, 1)), ((0, 0), (1, 1))], [((0, 10), (5, 7))]],
        [[((0, 0, 0, 0), (1, 1))], [((1, 1, 1, 0), (2, 1))], [], [((3, 0, 0, 0), (-1, 6)), ((0, 0, 0, 3), (1, 6))]],
        [[((0,) * k + (1,) + (0,) * (11 - k), (1, k + 1))] for k in range(12)],
        [[((power,), (1, power + 1)) for power in range(399, -1, -1)]],
    ]


def good_tables():
    half = (1, 2)
    big = (-10 ** 12 + 11, 10 ** 12 - 39)
    tables = [([[]], [(0, 1)]), ([[]], [(-7, 3)]), ([[]], [(10 ** 40, 10 ** 39 + 1)])]
    for rows in (1, 2, 3, 4, 5, 6, 39, 40):
        for part in (half, (0, 1), (-1, 1), big):
            tables.append(([[part] * k for k in range(rows)], [part] * rows))
    return tables


def no_tables():
    """Things that are no table, many of them but one step from a good one."""
    one = (1, 1)
    half = (1, 2)
    rows = [[], [half], [one, half]]
    last = [half, one, (-1, 3)]
    things = odd_things() + [
        # lists and tuples in each other's places
        [rows, last], (tuple(rows), last), (rows, tuple(last)), ([(), [half], [one, half]], last),
        ([[], (half,), [one, half]], last), ([[], [half], (one, half)], last), [[[]], [one]], (((),), (one,)),
        # another count of parts
        (), (rows,), (rows, last, []), (rows, last, last), (rows, last, None), (last, rows), rows, last, ([[]],),
        # no row, or too many
        ([], []), ([], [one]), ([[]], []), ([[one] * k for k in range(41)], [one] * 41),
        ([[one] * k for k in range(42)], [one] * 42), ([[one] * k for k in range(400)], [one] * 400),
        # a fraction too many or too few
        ([[one]], [one]), ([[], []], [one, one]), ([[], [one, one]], [one, one]), ([[half], [one, half]], [one, one]),
        ([[], [half], [one]], last), ([[], [half], [one, half, half]], last), ([[], [], [one, half]], last),
        ([[one], [half], [one, half]], last), ([[], [one, half], [half]], last), ([[], [one, half]], last),
        ([[]] + rows, last), (rows + [[]], last), (rows[::-1], last), (rows, last[1:]), (rows, last + [half]),
        (rows, []), (rows[:2], last), (rows + [last], last), (rows + [last + [one]], last + [one]),
        ([[one] * k for k in range(40)], [one] * 41), ([[one] * k for k in range(40)], [one] * 39),
        ([[one] * k for k in range(39)] + [[one] * 40], [one] * 40),
        # other kinds
        (None, last), (rows, None), ("", ""), ([None], [one]), ([""], [one]), ([[]], ""), ([[]], "a"), ([[]], "1"),
        ([0], [one]), ([False], [one]), ([[]], True), ([[]], one), ([[]], half), ({}, [one]), ([[], None], [one, one]),
        ([[], half], [one, one]), ([[], one], [one, one]), ([[], "a"], [one, one]), ([[[]]], [one]), ([[]], [[one]]),
    ]
    for thing in no_fractions():
        things.append(([[]], [thing]))
        things.append(([[], [thing], [one, half]], last))
        things.append(([[], [half], [thing, half]], last))
        things.append(([[], [half], [one, thing]], last))
        for k in range(3):
            things.append((rows, last[:k] + [thing] + last[k + 1:]))
    return things


# Four rows that miss at the chain of four knots alone.
OF_ORDER_3 = ([[], [(1, 2)], [(0, 1), (1, 2)], [(0, 1), (1, 1), (0, 1)]], [(1, 6), (1, 3), (1, 3), (1, 6)])

OF_ORDER_5 = (
    [[], [(1, 4)], [(1, 8), (1, 8)], [(0, 1), (-1, 2), (1, 1)], [(3, 16), (0, 1), (0, 1), (9, 16)],
     [(-3, 7), (2, 7), (12, 7), (-12, 7), (8, 7)]],
    [(7, 90), (0, 1), (16, 45), (2, 15), (16, 45), (7, 90)],
)

OF_ORDER_6 = (
    [[], [(1, 3)], [(0, 1), (2, 3)], [(1, 12), (1, 3), (-1, 12)], [(-1, 16), (9, 8), (-3, 16), (-3, 8)],
     [(0, 1), (9, 8), (-3, 8), (-3, 4), (1, 2)], [(9, 44), (-9, 11), (63, 44), (18, 11), (0, 1), (-16, 11)]],
    [(11, 120), (0, 1), (27, 40), (27, 40), (-4, 15), (-4, 15), (11, 120)],
)

WEIGHING_LENGTHS = [0, 1, 2, 4, 8, 17, 37, 85]


def no_weighings():
    """Things that are no list of as many fractions as there are trees of at most 0 to 7 knots."""
    half = (1, 2)
    things = [thing for thing in odd_things() if thing not in ([], [half])] + [(), (half,), half, [[half]]]
    for count in range(120):
        if count not in WEIGHING_LENGTHS:
            things.append([half] * count)
    things.extend([[half] * 200, [half] * 399, [half] * 400])
    for count in WEIGHING_LENGTHS:
        things.append(tuple([half] * count))
        things.append([[half] * count])
        for thing in no_fractions():
            for k in sorted({0, count // 2, count - 1}):
                if 0 <= k < count:
                    things.append([half] * k + [thing] + [half] * (count - 1 - k))
    return things


def refused(case, kind, ask, *handed):
    """The call is refused with just this class, and leaves what was handed in as it was."""
    before = copy.deepcopy(handed)
    with case.assertRaises(GroveError) as caught:
        ask(*handed)
    case.assertIs(type(caught.exception), kind)
    case.assertIsInstance(caught.exception, ValueError)
    case.assertEqual(kind.__bases__, (GroveError,))
    case.assertEqual(handed, before)


def own_answer(case, ask, *handed):
    """What is told is the asker's own: spoiling it, or what was handed in, changes no other answer."""
    before = copy.deepcopy(handed)
    # A copy is spoilt in its place; what is handed in twice stays one thing.
    handed = copy.deepcopy(handed)
    told = ask(*handed)
    kept = copy.deepcopy(told)
    case.assertEqual(handed, before)
    other = ask(*handed)
    spoil(told)
    case.assertEqual(other, kept)
    case.assertEqual(handed, before)
    case.assertEqual(ask(*handed), kept)
    for thing in handed:
        spoil(thing)
    case.assertEqual(other, kept)
    case.assertEqual(ask(*before), kept)
    lists = lists_within(other)
    case.assertEqual(len(set(id(some) for some in lists)), len(lists))


def lists_within(thing):
    found = [thing] if isinstance(thing, list) else []
    if isinstance(thing, (list, tuple)):
        for part in thing:
            found = found + lists_within(part)
    return found


def spoil(thing):
    for some in lists_within(thing):
        some.reverse()
        some.append("mine")
        some[0] = None
