"""Things of every kind that may be handed to a function that tells something of anything."""


def nested(thing, depth, wrap):
    for _ in range(depth):
        thing = wrap(thing)
    return thing


def odd_things():
    return [
        None, True, False, 0, 1, -1, 10 ** 30, "", "()", "(1, 2)", "a\nb", "x" * 2000,
        [], [[]], [()], [1, 2], [(1, 2)], [None], [0] * 400,
        (0,), (None,), (True,), ("",), ([],), ((), []), ((), ""), ((), None), ((), False), ((), 0),
        (0, ()), (None, ()), ([], ()), ("", ()), ((1,), ("a",)), ((None,), (1,)), (([],), (0,)),
        ("a", 1), (1, "a"), (None, None), ([1], [2]), (1, 2, 3, "a"),
        nested([], 19, lambda inner: [inner]),
        nested([], 19, lambda inner: (inner,)),
        nested(0, 20, lambda inner: (inner,)),
        tuple([0] * 400),
        tuple([()] * 399 + [[]]),
    ]
