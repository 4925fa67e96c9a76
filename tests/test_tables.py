import copy
import unittest

from stepgrove.errors import NoName
from stepgrove.tables import is_table, table_of

from plain import chances, some_table, tables_behind
from things import good_tables, no_fractions, no_tables, own_answer, refused, spoil

NO = (0, 1)
ONE = (1, 1)
HALF = (1, 2)
BIG = 10 ** 12 - 11

NAMED = {
    "plain": ([[]], [ONE]),
    "middle": ([[], [HALF]], [NO, ONE]),
    "heel": ([[], [ONE]], [HALF, HALF]),
    "third": ([[], [(1, 3)], [NO, (2, 3)]], [(1, 4), NO, (3, 4)]),
    "fourth": ([[], [HALF], [NO, HALF], [NO, NO, ONE]], [(1, 6), (1, 3), (1, 3), (1, 6)]),
}

OTHER_NAMES = [
    "", " ", "Plain", "PLAIN", "plain ", " plain", "plain\n", "plai", "plains", "plain middle", "first", "second",
    "fifth", "table plain", "rows", "0", "1", "x" * 2000, "~", "fourth.", "Fourth", "mid", "heels", "thirds",
]


class IsTable(unittest.TestCase):
    def look(self, thing, due):
        before = copy.deepcopy(thing)
        with self.subTest(thing):
            self.assertIs(is_table(thing), due)
            self.assertEqual(thing, before)

    def test_named_tables(self):
        for table in NAMED.values():
            self.look(table, True)

    def test_tables_of_one_row_to_forty(self):
        for table in good_tables():
            self.look(table, True)
        for rows in range(1, 41):
            self.look(some_table(chances(rows), rows, BIG), True)

    def test_forty_one_rows_and_more(self):
        for rows in (41, 42, 60, 100):
            self.look(some_table(chances(rows), rows, 9), False)

    def test_told_tables(self):
        self.look(tables_behind([table_of("fourth")] * 10), True)
        self.look(tables_behind([table_of("fourth")] * 10 + [table_of("plain")]), False)

    def test_other_things(self):
        for thing in no_tables():
            self.look(thing, False)

    def test_each_fraction_in_its_place(self):
        table = some_table(chances(1), 5, 9)
        for bad in no_fractions():
            for k in range(5):
                spoiled = copy.deepcopy(table)
                spoiled[1][k] = bad
                self.look(spoiled, False)
                for j in range(k):
                    spoiled = copy.deepcopy(table)
                    spoiled[0][k][j] = bad
                    self.look(spoiled, False)

    def test_each_row_too_long_or_too_short(self):
        for rows in (1, 2, 5, 40):
            table = some_table(chances(rows), rows, 9)
            self.look((table[0], table[1] + [ONE]), False)
            self.look((table[0], table[1][1:]), False)
            for k in range(rows):
                for row in (table[0][k] + [ONE], table[0][k][:-1] if k > 0 else None, tuple(table[0][k])):
                    self.look((table[0][:k] + [row] + table[0][k + 1:], table[1]), False)


class TableOf(unittest.TestCase):
    def test_named_tables(self):
        for name, table in NAMED.items():
            with self.subTest(name):
                self.assertEqual(table_of(name), table)
                self.assertIs(is_table(table_of(name)), True)

    def test_kinds(self):
        for name in NAMED:
            told = table_of(name)
            self.assertIs(type(told), tuple)
            self.assertEqual([type(part) for part in told], [list, list])
            self.assertEqual({type(row) for row in told[0]}, {list})
            self.assertEqual({type(part) for row in told[0] + [told[1]] for part in row}, {tuple})

    def test_told_tables_are_the_askers_own(self):
        for name in NAMED:
            own_answer(self, table_of, name)
        for name in NAMED:
            spoil(table_of(name))
        for name, table in NAMED.items():
            self.assertEqual(table_of(name), table)

    def test_other_names(self):
        for name in OTHER_NAMES:
            with self.subTest(name):
                refused(self, NoName, table_of, name)


if __name__ == "__main__":
    unittest.main()
