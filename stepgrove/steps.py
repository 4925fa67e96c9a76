"""Steps along a change by a table: where one leads, and the same with its length left standing, power by power."""

from stepgrove.changes import refuse_no_change
from stepgrove.fracs import common_bottom, fraction_of
from stepgrove.growth import powers_needed, product_at, refuse_too_many, row_of_fractions, speed_at
from stepgrove.polys import refuse_no_start, worth_at
from stepgrove.tables import refuse_no_table
from stepgrove.wholes import grain_of, pace_of, table_bottom, tops_over, whole_change


def step_to(table, change, start, length):
    refuse_no_step(table, change, start)
    grain = grain_of(start)
    place = (tops_over(start, grain), grain)
    speeds = []
    for row in rows_that_read(table):
        speeds.append(speeds_at(change, place))
        place = led_to(start, row, speeds, length)
    return [fraction_of(top, place[1]) for top in place[0]]


def step_rows(table, change, start, most):
    refuse_no_step(table, change, start)
    refuse_too_many(most)
    grain = grain_of(start)
    bottom = table_bottom(table)
    reading = [tops_over(row, bottom) for row in rows_that_read(table)]
    rows = whole_step(reading, whole_change(change, grain), tops_over(start, grain), most)
    # The length is counted in parts fine enough for the change and for the table.
    pace = pace_of(change, grain) * bottom
    return [row_of_fractions(row, pace, grain) for row in rows]


def refuse_no_step(table, change, start):
    refuse_no_table(table)
    refuse_no_change(change)
    refuse_no_start(start, len(change))


def rows_that_read(table):
    # The first row reads none, so its place is the start; last reads all the rows as one more row behind them would.
    return table[0][1:] + [table[1]]


# A place, and the speeds there, are told by their tops and the one bottom beneath them, not brought to lowest terms.


def speeds_at(change, place):
    numbers = [(top, 1) for top in place[0]]
    worths = [worth_at(some, numbers) for some in whole_change(change, place[1])]
    return ([worth[0] for worth in worths], place[1] * pace_of(change, place[1]))


def led_to(start, row, speeds, length):
    # A place's bottom holds those of all speeds that led there, and its speeds' bottom holds it: nothing leaves a rest.
    bottom = common_bottom([part[1] for part in row]) * length[1] * speeds[-1][1]
    tops = tops_over(start, bottom)
    for part, there in zip(row, speeds):
        share = part[0] * length[0] * (bottom // (part[1] * length[1] * there[1]))
        tops = [top + share * speed for top, speed in zip(tops, there[0])]
    return (tops, bottom)


def whole_step(reading, change, start, most):
    order = powers_needed(change)
    places = [[number] + [0] * most for number in start]
    speeds = []
    for row in reading:
        speeds.append(speed_rows(change, order, places, most))
        places = [[number] + read_at(row, speeds, k, most) for k, number in enumerate(start)]
    return places


def speed_rows(change, order, places, most):
    products = {}
    for powers in order:
        products[powers] = []
        for k in range(most):
            products[powers].append(product_at(products, places, powers, k))
    rows = []
    for some in change:
        rows.append([speed_at(some, products, k) for k in range(most)])
    return rows


def read_at(row, speeds, unknown, most):
    total = [0] * most
    for part, rows in zip(row, speeds):
        # Tables put together read 0 of most rows.
        if part != 0:
            total = [number + part * speed for number, speed in zip(total, rows[unknown])]
    return total
