import unittest
from fractions import Fraction

from stepgrove.errors import NoParts, NoTable, TooMany
from stepgrove.joins import table_behind, table_mixed, table_sharpened, table_shrunk
from stepgrove.orders import table_order
from stepgrove.steps import step_rows, step_to
from stepgrove.tables import is_table, table_of
from stepgrove.weights import table_weight

from plain import (
    chances, plain_step_on, some_change, some_fraction, some_start, some_table, some_tables, tables_behind, told,
)
from things import OF_ORDER_3, OF_ORDER_5, good_tables, no_tables, own_answer, refused

NO = (0, 1)
ONE = (1, 1)
HALF = (1, 2)
BIG = 10 ** 12 - 11
NAMES = ["plain", "middle", "heel", "third", "fourth"]

# x moves by y, y by x times y
PLAIN = [[((0, 1), ONE)], [((1, 1), ONE)]]
START = [(2, 1), (1, 3)]
PARTS = [NO, ONE, (2, 1), (-1, 1), HALF, (-2, 3), (7, 5)]
NO_ORDERS = [0, -1, -2, -6, -7, -10 ** 12, -10 ** 40, 7, 8, 40, 10 ** 12, 10 ** 40]


def times(one, other):
    return told(Fraction(*one) * Fraction(*other))


def shrunk(table, part):
    return ([[times(one, part) for one in row] for row in table[0]], [times(one, part) for one in table[1]])


def mixed(tables, parts):
    """All rows of all tables as one square of fractions, of which each row's beginning is taken."""
    count = sum(len(table[0]) for table in tables)
    square = [[NO] * count for _ in range(count)]
    last = [NO] * count
    ahead = 0
    for table, part in zip(tables, parts, strict=True):
        for k, row in enumerate(table[0]):
            for j, one in enumerate(row):
                square[ahead + k][ahead + j] = one
            last[ahead + k] = times(table[1][k], part)
        ahead = ahead + len(table[0])
    return ([row[:k] for k, row in enumerate(square)], last)


def sharpened(table, order):
    half = shrunk(table, HALF)
    parts = [told(Fraction(2 ** order, 2 ** order - 1)), told(Fraction(-1, 2 ** order - 1))]
    return mixed([tables_behind([half, half]), table], parts)


def far_by(tables, parts, change, start, length):
    """The start and the sum of parts times how far each table leads."""
    places = [Fraction(*place) for place in start]
    total = list(places)
    for table, part in zip(tables, parts, strict=True):
        led = step_to(table, change, start, length)
        total = [left + Fraction(*part) * (Fraction(*place) - begin) for left, place, begin in zip(total, led, places)]
    return [told(number) for number in total]


def rows_by(tables, parts, change, start, most):
    """The same, power by power."""
    rows = [[Fraction(*place)] + [Fraction(0)] * most for place in start]
    for table, part in zip(tables, parts, strict=True):
        for row, led in zip(rows, step_rows(table, change, start, most)):
            for k in range(1, most + 1):
                row[k] = row[k] + Fraction(*part) * Fraction(*led[k])
    return [[told(number) for number in row] for row in rows]


def small_tables():
    return [table for table in some_tables() if len(table[0]) < 3]


def wide_table(rows):
    return ([[HALF] * k for k in range(rows)], [ONE] * rows)


class Joined(unittest.TestCase):
    def look(self, table, due):
        self.assertEqual(table, due)
        self.assertTrue(is_table(table))


class TableBehind(Joined):
    def test_known_tables(self):
        self.look(table_behind(table_of("plain"), table_of("plain")), ([[], [ONE]], [ONE, ONE]))
        self.look(
            table_behind(table_of("middle"), table_of("heel")),
            ([[], [HALF], [NO, ONE], [NO, ONE, ONE]], [NO, ONE, HALF, HALF]))
        self.look(
            table_behind(table_of("heel"), table_of("middle")),
            ([[], [ONE], [HALF, HALF], [HALF, HALF, HALF]], [HALF, HALF, NO, ONE]))
        self.look(
            table_behind(([[]], [(-2, 3)]), table_of("third")),
            ([[], [(-2, 3)], [(-2, 3), (1, 3)], [(-2, 3), NO, (2, 3)]], [(-2, 3), (1, 4), NO, (3, 4)]))

    def test_form(self):
        for one in some_tables():
            for other in some_tables():
                self.look(table_behind(one, other), tables_behind([one, other]))

    def test_a_step_is_one_behind_the_other(self):
        for one in small_tables():
            for other in small_tables():
                both = table_behind(one, other)
                for length in (NO, ONE, (-2, 3), (1, 10)):
                    between = step_to(one, PLAIN, START, length)
                    self.assertEqual(
                        step_to(both, PLAIN, START, length), step_to(other, PLAIN, between, length))

    def test_power_by_power(self):
        chance = chances(2)
        for one in some_tables():
            for other in some_tables():
                change = some_change(chance, 2, 3, 2, 9)
                begin = [[Fraction(*place)] + [Fraction(0)] * 5 for place in START]
                led = plain_step_on(other, change, plain_step_on(one, change, begin))
                due = [[told(number) for number in row] for row in led]
                self.assertEqual(step_rows(table_behind(one, other), change, START, 5), due)

    def test_told_tables(self):
        third = table_of("third")
        nine = table_behind(table_behind(third, third), third)
        self.look(nine, tables_behind([third] * 3))
        self.look(table_behind(third, table_behind(third, third)), nine)
        big = some_table(chances(3), 5, BIG)
        self.look(table_behind(big, nine), tables_behind([big, nine]))

    def test_just_forty_rows(self):
        for one, other in ((20, 20), (39, 1), (1, 39), (17, 23), (35, 5)):
            table = table_behind(wide_table(one), wide_table(other))
            self.look(table, tables_behind([wide_table(one), wide_table(other)]))
            self.assertEqual(len(table[0]), 40)

    def test_more_than_forty_rows(self):
        for one, other in ((20, 21), (21, 20), (40, 1), (1, 40), (40, 40), (5, 36)):
            refused(self, TooMany, table_behind, wide_table(one), wide_table(other))

    def test_told_tables_are_the_askers_own(self):
        for one in some_tables():
            for other in some_tables():
                own_answer(self, table_behind, one, other)
        for name in NAMES:
            table = table_of(name)
            own_answer(self, table_behind, table, table)

    def test_no_table(self):
        for thing in no_tables():
            with self.subTest(thing):
                refused(self, NoTable, table_behind, thing, table_of("heel"))
                refused(self, NoTable, table_behind, table_of("heel"), thing)
                refused(self, NoTable, table_behind, thing, thing)
                refused(self, NoTable, table_behind, thing, wide_table(40))
                refused(self, NoTable, table_behind, wide_table(40), thing)


class TableShrunk(Joined):
    def test_known_tables(self):
        self.look(table_shrunk(table_of("plain"), HALF), ([[]], [HALF]))
        self.look(table_shrunk(table_of("heel"), (-2, 3)), ([[], [(-2, 3)]], [(-1, 3), (-1, 3)]))
        self.look(
            table_shrunk(table_of("third"), (3, 1)), ([[], [ONE], [NO, (2, 1)]], [(3, 4), NO, (9, 4)]))
        self.look(table_shrunk(table_of("third"), NO), ([[], [NO], [NO, NO]], [NO, NO, NO]))

    def test_form(self):
        for table in some_tables() + good_tables():
            for part in PARTS:
                self.look(table_shrunk(table, part), shrunk(table, part))
            self.look(table_shrunk(table, ONE), table)

    def test_a_step_is_one_of_part_times_the_length(self):
        chance = chances(4)
        for table in some_tables()[:9]:
            change = some_change(chance, 2, 4, 2, 9)
            for part in PARTS:
                for length in (ONE, (-2, 3), (1, 10)):
                    self.assertEqual(
                        step_to(table_shrunk(table, part), change, START, length),
                        step_to(table, change, START, times(part, length)))

    def test_power_by_power(self):
        for table in some_tables():
            rows = step_rows(table, PLAIN, START, 7)
            for part in PARTS:
                due = [[told(Fraction(*one) * Fraction(*part) ** k) for k, one in enumerate(row)] for row in rows]
                self.assertEqual(step_rows(table_shrunk(table, part), PLAIN, START, 7), due)

    def test_many_figures(self):
        table = some_table(chances(5), 5, BIG)
        part = some_fraction(chances(6), BIG)
        self.look(table_shrunk(table_shrunk(table, part), part), shrunk(shrunk(table, part), part))

    def test_told_tables_are_the_askers_own(self):
        for table in some_tables():
            for part in (ONE, NO, HALF):
                own_answer(self, table_shrunk, table, part)

    def test_no_table(self):
        for thing in no_tables():
            with self.subTest(thing):
                refused(self, NoTable, table_shrunk, thing, HALF)


class TableMixed(Joined):
    def test_known_tables(self):
        self.look(table_mixed([table_of("heel")], [ONE]), table_of("heel"))
        self.look(
            table_mixed([table_of("middle"), table_of("heel")], [HALF, (-2, 3)]),
            ([[], [HALF], [NO, NO], [NO, NO, ONE]], [NO, HALF, (-1, 3), (-1, 3)]))
        self.look(
            table_mixed([table_of("plain")] * 3, [NO, (3, 1), (-1, 5)]),
            ([[], [NO], [NO, NO]], [NO, (3, 1), (-1, 5)]))

    def test_form(self):
        chance = chances(7)
        for _ in range(60):
            tables = [chance.choice(some_tables()) for _ in range(chance.randint(1, 7))]
            parts = [chance.choice(PARTS) for _ in tables]
            self.look(table_mixed(tables, parts), mixed(tables, parts))

    def test_a_step_is_the_sum_of_parts_times_how_far_each_leads(self):
        chance = chances(8)
        for one in small_tables():
            for other in small_tables():
                parts = [chance.choice(PARTS), chance.choice(PARTS)]
                for length in (NO, ONE, (-2, 3)):
                    due = far_by([one, other], parts, PLAIN, START, length)
                    self.assertEqual(step_to(table_mixed([one, other], parts), PLAIN, START, length), due)
        three = [table_of("plain"), table_of("heel"), ([[]], [(7, 3)])]
        for parts in ([NO, NO, NO], [ONE, (-1, 1), HALF], [(1, 3)] * 3):
            due = far_by(three, parts, PLAIN, START, HALF)
            self.assertEqual(step_to(table_mixed(three, parts), PLAIN, START, HALF), due)

    def test_power_by_power(self):
        chance = chances(9)
        for _ in range(30):
            tables = [chance.choice(some_tables()) for _ in range(chance.randint(1, 5))]
            parts = [chance.choice(PARTS) for _ in tables]
            change = some_change(chance, 2, 3, 2, 9)
            due = rows_by(tables, parts, change, START, 6)
            self.assertEqual(step_rows(table_mixed(tables, parts), change, START, 6), due)

    def test_one_table_with_a_part(self):
        for table in some_tables():
            for part in PARTS:
                self.look(table_mixed([table], [part]), (table[0], [times(one, part) for one in table[1]]))

    def test_told_tables_and_many_figures(self):
        chance = chances(10)
        tables = [tables_behind([some_table(chance, 5, BIG)] * 2), some_table(chance, 5, BIG), table_of("fourth")]
        parts = some_start(chance, 3, BIG)
        once = table_mixed(tables, parts)
        self.look(once, mixed(tables, parts))
        self.look(table_mixed([once, once], parts[:2]), mixed([once, once], parts[:2]))

    def test_just_forty_rows(self):
        for counts in ([40], [20, 20], [1] * 40, [39, 1], [13, 13, 14]):
            tables = [wide_table(count) for count in counts]
            parts = [HALF] * len(counts)
            table = table_mixed(tables, parts)
            self.look(table, mixed(tables, parts))
            self.assertEqual(len(table[0]), 40)

    def test_more_than_forty_rows(self):
        for counts in ([40, 1], [1, 40], [20, 21], [1] * 41, [40] * 5, [1] * 400, [14, 14, 13]):
            refused(self, TooMany, table_mixed, [wide_table(count) for count in counts], [HALF] * len(counts))

    def test_lists_without_entries_or_of_unlike_lengths(self):
        heel = table_of("heel")
        refused(self, NoParts, table_mixed, [], [])
        for count in (1, 2, 3, 400):
            refused(self, NoParts, table_mixed, [], [HALF] * count)
            refused(self, NoParts, table_mixed, [heel] * count, [])
        for tables, parts in ((1, 2), (2, 1), (3, 2), (2, 3), (5, 400), (400, 5)):
            refused(self, NoParts, table_mixed, [heel] * tables, [HALF] * parts)

    def test_no_table(self):
        heel = table_of("heel")
        for thing in no_tables():
            with self.subTest(thing):
                refused(self, NoTable, table_mixed, [thing], [ONE])
                refused(self, NoTable, table_mixed, [heel, thing], [ONE, HALF])
                refused(self, NoTable, table_mixed, [thing, heel, heel], [ONE, HALF, NO])

    def test_order_of_refusals(self):
        wide = wide_table(40)
        for thing in no_tables():
            refused(self, NoTable, table_mixed, [thing], [])
            refused(self, NoTable, table_mixed, [thing], [ONE, ONE])
            refused(self, NoTable, table_mixed, [wide, wide, thing], [ONE])
            refused(self, NoTable, table_mixed, [wide, wide, thing], [ONE] * 3)
        refused(self, NoParts, table_mixed, [wide, wide], [ONE])
        refused(self, NoParts, table_mixed, [wide, wide], [])
        refused(self, NoParts, table_mixed, [table_of("plain")] * 41, [ONE] * 40)

    def test_told_tables_are_the_askers_own(self):
        own_answer(self, table_mixed, some_tables()[:6], PARTS[:6])
        for name in NAMES:
            own_answer(self, table_mixed, [table_of(name)], [ONE])
            table = table_of(name)
            own_answer(self, table_mixed, [table, table], [ONE, HALF])


class TableSharpened(Joined):
    def test_known_tables(self):
        self.look(table_sharpened(table_of("plain"), 1), ([[], [HALF], [NO, NO]], [ONE, ONE, (-1, 1)]))
        self.look(
            table_sharpened(table_of("plain"), 2), ([[], [HALF], [NO, NO]], [(2, 3), (2, 3), (-1, 3)]))
        self.look(table_sharpened(table_of("heel"), 2), (
            [[], [HALF], [(1, 4), (1, 4)], [(1, 4), (1, 4), HALF], [NO] * 4, [NO] * 4 + [ONE]],
            [(1, 3), (1, 3), (1, 3), (1, 3), (-1, 6), (-1, 6)]))

    def test_form(self):
        for table in some_tables() + [OF_ORDER_3, OF_ORDER_5]:
            for order in (1, 2, 3, 4, 5, 6):
                self.look(table_sharpened(table, order), sharpened(table, order))

    def test_a_step_is_mixed_of_two_half_ones_and_a_whole_one(self):
        for table in small_tables():
            for order in (1, 2, 3, 4, 5, 6):
                for length in (ONE, (-2, 3)):
                    half = times(length, HALF)
                    twice = step_to(table, PLAIN, step_to(table, PLAIN, START, half), half)
                    once = step_to(table, PLAIN, START, length)
                    due = [told((2 ** order * Fraction(*two) - Fraction(*one)) / (2 ** order - 1))
                           for two, one in zip(twice, once)]
                    self.assertEqual(step_to(table_sharpened(table, order), PLAIN, START, length), due)

    def test_power_by_power(self):
        for table in some_tables():
            half = shrunk(table, HALF)
            twice = step_rows(tables_behind([half, half]), PLAIN, START, 7)
            once = step_rows(table, PLAIN, START, 7)
            for order in (1, 2, 3, 4, 5, 6):
                power = 2 ** order
                rows = step_rows(table_sharpened(table, order), PLAIN, START, 7)
                for row, two, one in zip(rows, twice, once, strict=True):
                    due = [power * Fraction(*left) - Fraction(*right) for left, right in zip(two, one)]
                    self.assertEqual(row, [told(number / (power - 1)) for number in due])

    def test_the_order_rises(self):
        chance = chances(11)
        tables = [table_of(name) for name in NAMES] + [OF_ORDER_3, OF_ORDER_5, ([[], [(2, 3)]], [(1, 4), (3, 4)])]
        # of order 1, as last sums to 1
        part = some_fraction(chance, 99)
        tables.append(([[], [part]], [part, (part[1] - part[0], part[1])]))
        for table in tables:
            while len(table[0]) <= 13 and table_order(table)[0] < 6:
                order = table_order(table)[0]
                table = table_sharpened(table, order)
                self.assertGreater(table_order(table)[0], order)

    def test_another_order_than_the_tables_lets_the_first_knot_stay(self):
        for name in NAMES:
            for order in (1, 2, 3, 4, 5, 6):
                self.assertEqual(table_weight(table_sharpened(table_of(name), order), ()), ONE)

    def test_thirteen_rows_at_most(self):
        for rows in (1, 5, 7, 12, 13):
            for order in (1, 6):
                table = table_sharpened(wide_table(rows), order)
                self.look(table, sharpened(wide_table(rows), order))
                self.assertEqual(len(table[0]), 3 * rows)
        for rows in (14, 15, 20, 21, 39, 40):
            for order in (1, 3, 6):
                refused(self, TooMany, table_sharpened, wide_table(rows), order)

    def test_order_out_of_bounds(self):
        for order in NO_ORDERS:
            for name in NAMES:
                refused(self, TooMany, table_sharpened, table_of(name), order)
            refused(self, TooMany, table_sharpened, wide_table(40), order)

    def test_many_figures(self):
        table = some_table(chances(12), 4, BIG)
        self.look(table_sharpened(table_sharpened(table, 3), 4), sharpened(sharpened(table, 3), 4))

    def test_no_table_is_refused_first(self):
        for thing in no_tables():
            with self.subTest(thing):
                refused(self, NoTable, table_sharpened, thing, 2)
                for order in (0, 7, -1, 10 ** 40):
                    refused(self, NoTable, table_sharpened, thing, order)

    def test_told_tables_are_the_askers_own(self):
        for name in NAMES:
            for order in (1, 2, 6):
                own_answer(self, table_sharpened, table_of(name), order)


if __name__ == "__main__":
    unittest.main()
