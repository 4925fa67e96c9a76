import copy
import unittest
from fractions import Fraction

from stepgrove.changes import bent_change, change_speeds
from stepgrove.errors import NoChange, NoStart, NoTable, TooMany
from stepgrove.growth import growth_rows
from stepgrove.steps import step_rows, step_to
from stepgrove.tables import table_of

from plain import (
    chances, plain_step, plain_step_rows, some_change, some_fraction, some_start, some_table, tables_behind, told,
)
from things import good_tables, no_changes, no_starts, no_tables, own_answer, refused

NO = (0, 1)
ONE = (1, 1)
HALF = (1, 2)
BIG = 10 ** 12 - 11
NAMES = ["plain", "middle", "heel", "third", "fourth"]

# x moves by y, y by x times y
PLAIN = [[((0, 1), ONE)], [((1, 1), ONE)]]
START = [(2, 1), (1, 3)]
LENGTHS = [NO, ONE, (2, 1), (-1, 1), (1, 10), (-2, 3), (7, 5), (-13, 1)]


def put_together(rows, length):
    """Where the rows lead when h is that length."""
    return [told(sum(Fraction(*part) * Fraction(*length) ** k for k, part in enumerate(row))) for row in rows]


def row_change(count):
    """The change of a chain: each number's speed is the next one, the last one's is 1."""
    change = []
    for k in range(count):
        powers = tuple(1 if j == k + 1 else 0 for j in range(count))
        change.append([(powers, ONE)])
    return change


class StepTo(unittest.TestCase):
    def look(self, table, change, start, length):
        step = step_to(table, change, start, length)
        self.assertEqual(step, plain_step(table, change, start, length), (table, change, start, length))
        self.assertIs(type(step), list)
        return step

    def test_known_steps(self):
        square = [[((2,), ONE)]]
        self.assertEqual(step_to(table_of("plain"), square, [ONE], (1, 10)), [(11, 10)])
        self.assertEqual(step_to(table_of("middle"), square, [ONE], (1, 10)), [(4441, 4000)])
        self.assertEqual(step_to(table_of("heel"), square, [ONE], (1, 10)), [(2221, 2000)])
        same = [[((1,), ONE)]]
        self.assertEqual(step_to(table_of("plain"), same, [ONE], ONE), [(2, 1)])
        self.assertEqual(step_to(table_of("middle"), same, [ONE], ONE), [(5, 2)])
        self.assertEqual(step_to(table_of("heel"), same, [ONE], ONE), [(5, 2)])
        self.assertEqual(step_to(table_of("third"), same, [ONE], ONE), [(8, 3)])
        self.assertEqual(step_to(table_of("fourth"), same, [ONE], ONE), [(65, 24)])
        self.assertEqual(step_to(table_of("fourth"), same, [ONE], (-1, 1)), [(3, 8)])
        self.assertEqual(step_to(table_of("plain"), PLAIN, START, HALF), [(13, 6), (2, 3)])

    def test_each_named_table(self):
        chance = chances(1)
        for name in NAMES:
            for unknowns in (1, 2, 3, 4):
                change = some_change(chance, unknowns, 6, 2, 9)
                start = some_start(chance, unknowns, 9)
                for length in LENGTHS:
                    self.look(table_of(name), change, start, length)

    def test_tables_of_one_row_to_four(self):
        chance = chances(2)
        for rows in (1, 2, 3, 4):
            for unknowns in (1, 2, 3):
                for greatest in (0, 1, 2):
                    change = some_change(chance, unknowns, 4, greatest, 9)
                    start = some_start(chance, unknowns, 9)
                    for length in LENGTHS:
                        self.look(some_table(chance, rows, 9), change, start, length)

    def test_tables_with_noughts(self):
        for parts in ([NO, NO, NO], [ONE, NO, NO], [NO, HALF, NO], [HALF, NO, (-1, 3)]):
            self.look(([[], [HALF], [ONE, NO]], parts), PLAIN, START, HALF)
            self.look(([[], [NO], parts[:2]], parts), PLAIN, START, (-2, 3))

    def test_length_0_stays_at_the_start(self):
        chance = chances(3)
        for table in [table_of(name) for name in NAMES] + [some_table(chance, 4, 99)]:
            for unknowns in (1, 2, 4):
                start = some_start(chance, unknowns, 99)
                self.assertEqual(step_to(table, some_change(chance, unknowns, 5, 2, 99), start, NO), start)

    def test_what_stands_still_or_moves_evenly(self):
        for name in NAMES:
            self.assertEqual(step_to(table_of(name), [[]], [(5, 7)], (3, 4)), [(5, 7)])
            self.assertEqual(step_to(table_of(name), [[], []], [(5, 7), NO], (3, 4)), [(5, 7), NO])
            self.assertEqual(step_to(table_of(name), [[((0,), (3, 4))]], [(5, 7)], (2, 3)), [(17, 14)])

    def test_plain_takes_the_speeds_of_the_start(self):
        speeds = change_speeds(PLAIN, START)
        due = [told(Fraction(*place) + Fraction(*speed) / 3) for place, speed in zip(START, speeds)]
        self.assertEqual(step_to(table_of("plain"), PLAIN, START, (1, 3)), due)

    def test_starts_with_noughts(self):
        chance = chances(4)
        for unknowns in (1, 2, 3):
            change = some_change(chance, unknowns, 5, 2, 9)
            self.look(some_table(chance, 4, 9), change, [NO] * unknowns, HALF)
            self.look(some_table(chance, 4, 9), change, [NO] + some_start(chance, unknowns - 1, 9), HALF)

    def test_many_figures(self):
        chance = chances(5)
        for unknowns in (1, 2, 4):
            change = some_change(chance, unknowns, 12, 2, BIG)
            start = some_start(chance, unknowns, BIG)
            self.look(some_table(chance, 4, BIG), change, start, some_fraction(chance, BIG))

    def test_somewhat_beyond_the_bounds(self):
        chance = chances(6)
        self.look(some_table(chance, 5, 9), some_change(chance, 2, 4, 2, 9), START, HALF)
        self.look(some_table(chance, 4, 9), some_change(chance, 2, 4, 3, 9), START, HALF)
        self.look(some_table(chance, 2, 9), some_change(chance, 5, 4, 2, 9), some_start(chance, 5, 9), HALF)

    def test_what_was_told_may_be_handed_in_again(self):
        place = [NO, ONE]
        for _ in range(3):
            place = self.look(table_of("fourth"), PLAIN, place, (1, 10))
        change = bent_change(some_change(chances(7), 2, 4, 2, 99), ((),))
        self.look(table_of("middle"), change, START, place[0])
        self.look(tables_behind([table_of("middle")] * 2), PLAIN, START, HALF)

    def test_two_steps_are_one_by_the_tables_behind_one_another(self):
        first = some_table(chances(8), 2, 9)
        for name in ("plain", "middle", "heel"):
            both = tables_behind([first, table_of(name)])
            between = step_to(first, PLAIN, START, (2, 3))
            self.assertEqual(
                step_to(both, PLAIN, START, (2, 3)), step_to(table_of(name), PLAIN, between, (2, 3)))


class StepRows(unittest.TestCase):
    def look(self, table, change, start, most, reach=None):
        rows = step_rows(table, change, start, most)
        due = plain_step_rows(table, change, start, most if reach is None else reach)
        self.assertEqual(rows, [row[:most + 1] for row in due], (table, change, start, most))
        self.assertEqual([len(row) for row in rows], [most + 1] * len(change))
        self.assertEqual([row[0] for row in rows], start)
        self.assertEqual([type(thing) for thing in [rows] + rows], [list] * (1 + len(change)))
        return rows

    def test_known_rows(self):
        same = [[((1,), ONE)]]
        whole = [ONE, ONE, HALF, (1, 6), (1, 24)]
        self.assertEqual(step_rows(table_of("plain"), same, [ONE], 4), [whole[:2] + [NO] * 3])
        self.assertEqual(step_rows(table_of("middle"), same, [ONE], 4), [whole[:3] + [NO] * 2])
        self.assertEqual(step_rows(table_of("heel"), same, [ONE], 4), [whole[:3] + [NO] * 2])
        self.assertEqual(step_rows(table_of("third"), same, [ONE], 4), [whole[:4] + [NO]])
        self.assertEqual(step_rows(table_of("fourth"), same, [ONE], 7), [whole + [NO] * 3])
        square = [[((2,), ONE)]]
        self.assertEqual(step_rows(table_of("middle"), square, [ONE], 4), [[ONE, ONE, ONE, (1, 4), NO]])
        self.assertEqual(
            step_rows(table_of("third"), square, [ONE], 7),
            [[ONE, ONE, ONE, ONE, (5, 9), (2, 9), (4, 81), (1, 243)]])

    def test_each_named_table(self):
        chance = chances(1)
        for name in NAMES:
            for unknowns in (1, 2, 3, 4):
                for greatest in (1, 2, 3):
                    change = some_change(chance, unknowns, 4, greatest, 9)
                    start = some_start(chance, unknowns, 9)
                    for most in (0, 1, 4, 7):
                        self.look(table_of(name), change, start, most)

    def test_tables_of_one_row_to_five(self):
        chance = chances(2)
        for rows in (1, 2, 3, 4, 5):
            for unknowns in (1, 2, 3):
                for greatest in (0, 1, 2, 3):
                    change = some_change(chance, unknowns, 3, greatest, 9)
                    start = some_start(chance, unknowns, 9)
                    for most in (0, 2, 3, 7):
                        self.look(some_table(chance, rows, 9), change, start, most)

    def test_greater_powers_are_left_out(self):
        # With nothing left out the sums have powers up to 15, which all are made ahead of cutting them.
        change = some_change(chances(3), 2, 6, 2, 9)
        for table in (table_of("fourth"), some_table(chances(4), 4, 9)):
            rows = plain_step_rows(table, change, START, 15)
            self.assertNotEqual(rows[0][15], NO)
            for most in range(8):
                self.look(table, change, START, most, 15)

    def test_most_0_tells_the_start_alone(self):
        for table in good_tables():
            self.assertEqual(step_rows(table, PLAIN, START, 0), [[place] for place in START])

    def test_less_most_is_the_beginning_of_more(self):
        for table in [table_of(name) for name in NAMES] + [some_table(chances(5), 5, 9)]:
            rows = step_rows(table, PLAIN, START, 7)
            for most in range(8):
                self.assertEqual(step_rows(table, PLAIN, START, most), [row[:most + 1] for row in rows])

    def test_put_together_with_a_lengths_powers_it_is_the_step(self):
        chance = chances(6)
        # rows of the table, and powers of the change, for which the step has no power above 7
        for rows, greatest in ((1, 0), (1, 2), (1, 3), (2, 1), (2, 2), (2, 3), (3, 1), (3, 2), (4, 1), (4, 0)):
            for unknowns in (1, 2, 3):
                change = some_change(chance, unknowns, 5, greatest, 9)
                start = some_start(chance, unknowns, 9)
                table = some_table(chance, rows, 9)
                for length in LENGTHS:
                    self.assertEqual(
                        put_together(step_rows(table, change, start, 7), length),
                        step_to(table, change, start, length))

    def test_a_left_out_power_is_missed(self):
        table = some_table(chances(7), 4, 9)
        change = some_change(chances(8), 2, 6, 2, 9)
        self.assertNotEqual(
            put_together(step_rows(table, change, START, 7), HALF), step_to(table, change, START, HALF))

    def test_named_tables_go_with_the_growth_as_far_as_they_are_good(self):
        chance = chances(9)
        for name, order in (("plain", 1), ("middle", 2), ("heel", 2), ("third", 3), ("fourth", 4)):
            for unknowns in (1, 2, 3):
                change = some_change(chance, unknowns, 5, 3, 9)
                start = some_start(chance, unknowns, 9)
                grown = growth_rows(change, start, order + 1)
                rows = step_rows(table_of(name), change, start, order + 1)
                self.assertEqual([row[:-1] for row in rows], [row[:-1] for row in grown])
                self.assertNotEqual(rows, grown)

    def test_a_chain_reads_row_behind_row(self):
        # Unknown 0 of a chain moves at the power s only through s rows that each read the one ahead.
        table = some_table(chances(10), 5, 9)
        product = Fraction(*table[1][4])
        for k in (4, 3, 2, 1):
            product = product * Fraction(*table[0][k][k - 1])
        for most in (5, 7):
            rows = step_rows(table, row_change(5), [NO] * 5, most)
            self.assertEqual(rows[0][5], told(product))
        self.assertEqual(step_rows(table, row_change(6), [NO] * 6, 7)[0], [NO] * 8)

    def test_starts_with_noughts(self):
        chance = chances(11)
        for unknowns in (1, 2, 3):
            change = some_change(chance, unknowns, 5, 3, 9)
            self.look(some_table(chance, 4, 9), change, [NO] * unknowns, 7)
            self.look(some_table(chance, 4, 9), change, [NO] + some_start(chance, unknowns - 1, 9), 7)

    def test_what_stands_still_or_moves_evenly(self):
        for name in NAMES:
            self.assertEqual(step_rows(table_of(name), [[]], [(5, 7)], 7), [[(5, 7)] + [NO] * 7])
            self.assertEqual(
                step_rows(table_of(name), [[((0,), (3, 4))]], [(5, 7)], 7), [[(5, 7), (3, 4)] + [NO] * 6])

    def test_many_figures(self):
        chance = chances(12)
        for unknowns in (1, 2, 4):
            change = some_change(chance, unknowns, 12, 3, BIG)
            self.look(some_table(chance, 5, BIG), change, some_start(chance, unknowns, BIG), 3 if unknowns > 2 else 5)

    def test_told_tables_of_many_rows(self):
        chance = chances(13)
        for tables in ([table_of("fourth")] * 10, [some_table(chance, 4, 9) for _ in range(5)]):
            self.look(tables_behind(tables), some_change(chance, 2, 3, 2, 9), START, 7)

    def test_what_was_told_may_be_handed_in_again(self):
        start = [row[-1] for row in step_rows(table_of("fourth"), PLAIN, START, 7)]
        change = bent_change(some_change(chances(14), 2, 4, 2, 99), (((),),))
        self.look(table_of("fourth"), change, start, 7)


class Refusals(unittest.TestCase):
    def test_no_table(self):
        for thing in no_tables():
            with self.subTest(thing):
                refused(self, NoTable, step_to, thing, PLAIN, START, HALF)
                refused(self, NoTable, step_rows, thing, PLAIN, START, 3)

    def test_no_change(self):
        for thing in no_changes():
            with self.subTest(thing):
                refused(self, NoChange, step_to, table_of("heel"), thing, [ONE], HALF)
                refused(self, NoChange, step_rows, table_of("heel"), thing, [ONE], 3)

    def test_no_start(self):
        for change in ([[((1,), ONE)]], [[]], PLAIN):
            for thing in no_starts(len(change)):
                with self.subTest(thing):
                    refused(self, NoStart, step_to, table_of("heel"), change, thing, HALF)
                    refused(self, NoStart, step_rows, table_of("heel"), change, thing, 3)

    def test_most_out_of_bounds(self):
        for most in (-1, -2, -7, -8, -10 ** 12, -10 ** 40, 8, 9, 40, 100, 10 ** 12, 10 ** 40):
            with self.subTest(most):
                refused(self, TooMany, step_rows, table_of("heel"), PLAIN, START, most)
                refused(self, TooMany, step_rows, table_of("plain"), [[]], [ONE], most)

    def test_order_of_refusals(self):
        for thing in no_tables():
            refused(self, NoTable, step_to, thing, None, None, HALF)
            refused(self, NoTable, step_to, thing, PLAIN, None, HALF)
            refused(self, NoTable, step_to, thing, [[], None], START, HALF)
            refused(self, NoTable, step_rows, thing, None, None, 8)
            refused(self, NoTable, step_rows, thing, PLAIN, [(2, 4)], -1)
            refused(self, NoTable, step_rows, thing, PLAIN, START, 8)
        for thing in no_changes():
            refused(self, NoChange, step_to, table_of("heel"), thing, None, HALF)
            refused(self, NoChange, step_rows, table_of("heel"), thing, None, 8)
            refused(self, NoChange, step_rows, table_of("heel"), thing, [ONE], -1)
        for thing in no_starts(2):
            refused(self, NoStart, step_rows, table_of("heel"), PLAIN, thing, 8)
            refused(self, NoStart, step_rows, table_of("heel"), PLAIN, thing, -1)


class OwnAnswers(unittest.TestCase):
    def test_told_lists_are_the_askers_own(self):
        for name in NAMES:
            for change in (PLAIN, [[], []]):
                own_answer(self, step_to, table_of(name), copy.deepcopy(change), list(START), HALF)
                own_answer(self, step_to, table_of(name), copy.deepcopy(change), list(START), NO)
                for most in (0, 1, 7):
                    own_answer(self, step_rows, table_of(name), copy.deepcopy(change), list(START), most)


if __name__ == "__main__":
    unittest.main()
