"""Tables: for each row the fractions with which it reads the rows ahead of it, and last those that make the step."""

from stepgrove.errors import NoName, NoTable
from stepgrove.fracs import are_fractions

MOST_ROWS = 40

NAMED_TABLES = {
    "plain": (((),), ((1, 1),)),
    "middle": (((), ((1, 2),)), ((0, 1), (1, 1))),
    "heel": (((), ((1, 1),)), ((1, 2), (1, 2))),
    "third": (((), ((1, 3),), ((0, 1), (2, 3))), ((1, 4), (0, 1), (3, 4))),
    "fourth": (
        ((), ((1, 2),), ((0, 1), (1, 2)), ((0, 1), (0, 1), (1, 1))),
        ((1, 6), (1, 3), (1, 3), (1, 6)),
    ),
}


def is_table(thing):
    if not isinstance(thing, tuple) or len(thing) != 2:
        return False
    return are_rows(thing[0]) and are_fractions(thing[1]) and len(thing[1]) == len(thing[0])


def table_of(name):
    if name not in NAMED_TABLES:
        raise NoName("no table is called so")
    named = NAMED_TABLES[name]
    return ([list(row) for row in named[0]], list(named[1]))


def refuse_no_table(thing):
    if not is_table(thing):
        raise NoTable("a table is a tuple of rows, the k-th of k fractions, and a last of as many as there are rows")


def are_rows(thing):
    if not isinstance(thing, list) or len(thing) < 1 or len(thing) > MOST_ROWS:
        return False
    for k, row in enumerate(thing):
        if not are_fractions(row) or len(row) != k:
            return False
    return True
