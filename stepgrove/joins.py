"""Rules joined: tables put behind one another, shrunk, mixed and sharpened."""

from stepgrove.errors import NoParts, TooMany
from stepgrove.fracs import frac_times, fraction_of, power_of
from stepgrove.tables import MOST_ROWS, refuse_no_table

MOST_SHARPENED = 6


def table_behind(one, other):
    refuse_no_table(one)
    refuse_no_table(other)
    refuse_too_many_rows([one, other])
    rows = [list(row) for row in one[0]] + [one[1] + row for row in other[0]]
    return (rows, one[1] + other[1])


def table_shrunk(table, part):
    refuse_no_table(table)
    return ([scaled(row, part) for row in table[0]], scaled(table[1], part))


def table_mixed(tables, parts):
    for table in tables:
        refuse_no_table(table)
    if len(tables) == 0 or len(tables) != len(parts):
        raise NoParts("tables are mixed with a part for each, and one at least")
    refuse_too_many_rows(tables)
    rows = []
    last = []
    for table, part in zip(tables, parts):
        unread = [(0, 1)] * len(last)
        rows.extend([unread + row for row in table[0]])
        last.extend(scaled(table[1], part))
    return (rows, last)


def table_sharpened(table, order):
    refuse_no_table(table)
    if order < 1 or order > MOST_SHARPENED:
        raise TooMany("tables are sharpened by the orders 1 to 6")
    halved = table_shrunk(table, (1, 2))
    power = power_of(2, order)
    parts = [fraction_of(power, power - 1), fraction_of(-1, power - 1)]
    return table_mixed([table_behind(halved, halved), table], parts)


def refuse_too_many_rows(tables):
    if sum([len(table[0]) for table in tables]) > MOST_ROWS:
        raise TooMany("a table has at most 40 rows")


def scaled(row, part):
    return [frac_times(one, part) for one in row]
