import unittest
from unittest import mock

from stepgrove.errors import NoTable, TooMany
from stepgrove.judging import judge_paper, order_paper
from stepgrove.orders import table_order
from stepgrove.tables import table_of
from stepgrove.trees import tree_density, trees_of, trees_to
from stepgrove.weights import table_weight, true_weighing

from plain import chances, plain_weight, some_fraction, some_table, tables_behind
from things import (
    OF_ORDER_3, OF_ORDER_5, OF_ORDER_6, good_tables, no_fractions, no_tables, no_trees, odd_things, own_answer, refused,
)

NO = (0, 1)
ONE = (1, 1)
HALF = (1, 2)
BIG = 10 ** 12 - 11
NAMES = ["plain", "middle", "heel", "third", "fourth"]

KNOT = ()
PAIR = ((),)
FORK = ((), ())
CHAIN = (((),),)

# five rows, of which the last is read by nothing
WIDER = ([[], [HALF], [NO, HALF], [NO, NO, ONE], [ONE, (3, 7), NO, HALF]], [(1, 6), (1, 3), (1, 3), (1, 6), NO])


def tables_of_each_order():
    """Tables of one row to five, of the orders 0 to 4."""
    chance = chances(1)
    tables = [table_of(name) for name in NAMES] + [OF_ORDER_3, WIDER]
    tables.extend([([[]], [NO]), ([[], [(2, 3)]], [(1, 4), (3, 4)]), ([[], [HALF]], [HALF, HALF])])
    return tables + [some_table(chance, rows, 9) for rows in (1, 2, 3, 4, 5)]


def changed_at(some, k, thing):
    return some[:k] + [thing] + some[k + 1:]


def more_than_five_rows():
    wide = [tables_behind([table_of("middle")] * 3), tables_behind([table_of("plain")] * 6), OF_ORDER_5, OF_ORDER_6]
    return wide + [table for table in good_tables() if len(table[0]) > 5]


class OrderPaper(unittest.TestCase):
    def test_named_tables(self):
        self.assertEqual(order_paper(table_of("plain")), (1, [(KNOT, ONE)], (PAIR, NO)))
        self.assertEqual(order_paper(table_of("middle")), (2, [(KNOT, ONE), (PAIR, HALF)], (FORK, (1, 4))))
        self.assertEqual(order_paper(table_of("heel")), (2, [(KNOT, ONE), (PAIR, HALF)], (FORK, HALF)))
        self.assertEqual(order_paper(table_of("third")), (
            3, [(KNOT, ONE), (PAIR, HALF), (FORK, (1, 3)), (CHAIN, (1, 6))], ((KNOT,) * 3, (2, 9))))
        self.assertEqual(order_paper(table_of("fourth")), (
            4, list(zip(trees_to(4), true_weighing(4), strict=True)), ((KNOT,) * 4, (5, 24))))

    def test_order_0_has_no_line(self):
        self.assertEqual(order_paper(([[]], [NO])), (0, [], (KNOT, NO)))
        self.assertEqual(order_paper(([[], [ONE]], [HALF, ONE])), (0, [], (KNOT, (3, 2))))

    def test_it_tells_the_order_and_its_tree(self):
        for table in tables_of_each_order():
            paper = order_paper(table)
            order, tree = table_order(table)
            self.assertEqual(paper[0], order)
            self.assertEqual(paper[1], [(other, plain_weight(table, other)) for other in trees_to(order)])
            self.assertEqual(paper[2], (tree, plain_weight(table, tree)))
            self.assertEqual([type(thing) for thing in (paper,) + paper], [tuple, int, list, tuple])
            self.assertEqual([type(line) for line in paper[1]], [tuple] * len(paper[1]))

    def test_each_order_is_there(self):
        self.assertEqual(sorted({order_paper(table)[0] for table in tables_of_each_order()}), [0, 1, 2, 3, 4])

    def test_told_papers_are_the_askers_own(self):
        for name in NAMES:
            own_answer(self, order_paper, table_of(name))

    def test_refusals(self):
        for thing in no_tables():
            with self.subTest(thing):
                refused(self, NoTable, order_paper, thing)
        for table in more_than_five_rows():
            refused(self, TooMany, order_paper, table)


class JudgePaper(unittest.TestCase):
    def look(self, due, table, paper):
        answer = judge_paper(table, paper)
        self.assertIs(answer, due, (table, paper))

    def test_told_papers_are_let_by(self):
        for table in tables_of_each_order():
            self.look(True, table, order_paper(table))

    def test_many_figures(self):
        chance = chances(2)
        for rows in (1, 3, 5):
            table = some_table(chance, rows, BIG)
            self.look(True, table, order_paper(table))
        # of order 1 at least, as last sums to 1
        part = some_fraction(chance, BIG)
        table = ([[], [part]], [part, (part[1] - part[0], part[1])])
        paper = order_paper(table)
        self.assertGreater(paper[0], 0)
        self.look(True, table, paper)

    def test_every_tree_of_that_count_that_misses_is_let_by(self):
        for table in tables_of_each_order():
            order, lines, odd = order_paper(table)
            for tree in trees_of(order + 1):
                weight = plain_weight(table, tree)
                self.look(weight != (1, tree_density(tree)), table, (order, lines, (tree, weight)))

    def test_another_order(self):
        for table in tables_of_each_order():
            order, lines, odd = order_paper(table)
            others = [None, True, False, "", "1", str(order), (order,), [order], -1, 7, 8, 10 ** 30, -10 ** 30, ONE]
            others.extend(other for other in range(7) if other != order)
            for other in others:
                self.look(False, table, (other, lines, odd))

    def test_true_and_false_are_no_order(self):
        self.look(True, table_of("plain"), (1, [(KNOT, ONE)], (PAIR, NO)))
        self.look(False, table_of("plain"), (True, [(KNOT, ONE)], (PAIR, NO)))
        self.look(True, ([[]], [NO]), (0, [], (KNOT, NO)))
        self.look(False, ([[]], [NO]), (False, [], (KNOT, NO)))

    def test_orders_with_all_that_belongs_to_them(self):
        # A whole paper of another order, right in its form: its lines are not true, or its odd tree is.
        for table in tables_of_each_order():
            order = table_order(table)[0]
            for other in range(7):
                if other == order:
                    continue
                for weights in ([plain_weight(table, tree) for tree in trees_to(other)], true_weighing(other)):
                    lines = list(zip(trees_to(other), weights, strict=True))
                    odds = [None]
                    if other < 6:
                        odds.extend((tree, plain_weight(table, tree)) for tree in trees_of(other + 1)[:3])
                    for odd in odds:
                        self.look(False, table, (other, lines, odd))

    def test_order_6(self):
        for table in tables_of_each_order():
            lines = list(zip(trees_to(6), true_weighing(6), strict=True))
            chain = trees_of(7)[-1]
            for odd in (None, (chain, NO), lines[-1], (KNOT, ONE)):
                self.look(False, table, (6, lines, odd))
                self.look(False, table, (7, lines, odd))

    def test_order_6_has_no_odd_tree(self):
        # Five rows never reach the order 6, so for this alone seven are let through to the judge.
        with mock.patch("stepgrove.judging.MOST_JUDGED_ROWS", 7):
            paper = order_paper(OF_ORDER_6)
            lines = list(zip(trees_to(6), true_weighing(6), strict=True))
            self.assertEqual(paper, (6, lines, None))
            self.look(True, OF_ORDER_6, paper)
            for tree in trees_of(7)[::12] + [KNOT]:
                self.look(False, OF_ORDER_6, (6, lines, (tree, table_weight(OF_ORDER_6, tree))))
            self.look(False, OF_ORDER_6, (6, lines, False))
            self.look(False, OF_ORDER_5, paper)
            self.look(True, OF_ORDER_5, order_paper(OF_ORDER_5))

    def test_lines_more_or_less(self):
        for table in tables_of_each_order():
            order, lines, odd = order_paper(table)
            others = [lines + [odd], lines + [(KNOT, ONE)], [odd] + lines, lines + [None], lines + [()]]
            others.extend(lines[:k] + lines[k + 1:] for k in range(len(lines)))
            others.extend(lines[:k] + [lines[k]] + lines[k:] for k in range(len(lines)))
            for other in others:
                self.look(False, table, (order, other, odd))

    def test_lines_exchanged(self):
        for table in tables_of_each_order():
            order, lines, odd = order_paper(table)
            for k in range(len(lines)):
                for j in range(k):
                    other = changed_at(changed_at(lines, k, lines[j]), j, lines[k])
                    self.look(False, table, (order, other, odd))
                    # the trees alone, and the weights alone
                    trees = changed_at(changed_at(lines, k, (lines[j][0], lines[k][1])), j, (lines[k][0], lines[j][1]))
                    self.look(False, table, (order, trees, odd))
            if len(lines) > 1:
                self.look(False, table, (order, lines[::-1], odd))

    def test_other_weights(self):
        for table in tables_of_each_order():
            order, lines, odd = order_paper(table)
            for k, (tree, weight) in enumerate(lines):
                others = [NO, (2, 1), (-weight[0], weight[1]), (weight[0] + weight[1], weight[1])]
                # not in lowest terms
                others.extend([(weight[0] * 2, weight[1] * 2), (-weight[0], -weight[1]), (weight[0], 0)])
                others.extend([list(weight), weight + (1,), weight[:1], (weight,), str(weight)])
                for other in others + no_fractions():
                    self.look(False, table, (order, changed_at(lines, k, (tree, other)), odd))

    def test_true_is_no_number_in_a_weight(self):
        table = table_of("plain")
        for weight in ((True, 1), (1, True), (True, True)):
            self.look(False, table, (1, [(KNOT, weight)], (PAIR, NO)))
        for weight in ((False, 1), (0, True), (False, True)):
            self.look(False, table, (1, [(KNOT, ONE)], (PAIR, weight)))

    def test_weights_that_are_true_but_not_the_tables(self):
        for table in (([[]], [HALF]), ([[], [ONE]], [ONE, ONE])):
            self.look(False, table, (1, [(KNOT, ONE)], (PAIR, plain_weight(table, PAIR))))
        self.look(False, table_of("heel"), (
            3, list(zip(trees_to(3), true_weighing(3), strict=True)), ((KNOT,) * 3, HALF)))

    def test_weights_that_are_the_tables_but_not_true(self):
        for table in (([[]], [HALF]), ([[], [ONE]], [ONE, ONE])):
            lines = [(KNOT, plain_weight(table, KNOT))]
            self.look(False, table, (1, lines, (PAIR, plain_weight(table, PAIR))))

    def test_other_trees(self):
        for table in tables_of_each_order():
            order, lines, odd = order_paper(table)
            for k, (tree, weight) in enumerate(lines):
                for other in trees_to(5) + no_trees():
                    if other != tree:
                        self.look(False, table, (order, changed_at(lines, k, (other, weight)), odd))

    def test_lines_of_another_form(self):
        for table in tables_of_each_order():
            order, lines, odd = order_paper(table)
            for k, line in enumerate(lines):
                others = [list(line), line + (None,), line + line, line[:1], line[::-1], (line,), [line]]
                for other in others + odd_things():
                    self.look(False, table, (order, changed_at(lines, k, other), odd))
            for other in [tuple(lines), dict(lines), [lines], (lines,), None, True, 0, "", (), len(lines)]:
                self.look(False, table, (order, other, odd))
            for other in odd_things():
                if other != lines:
                    self.look(False, table, (order, other, odd))

    def test_odd_missing_or_of_another_form(self):
        for table in tables_of_each_order():
            order, lines, odd = order_paper(table)
            others = [None, list(odd), odd + (None,), odd[:1], odd[1:], odd[::-1], (odd,), [odd], odd[0], odd[1], ()]
            for other in others + odd_things():
                self.look(False, table, (order, lines, other))

    def test_odd_with_another_weight(self):
        for table in tables_of_each_order():
            order, lines, (tree, weight) = order_paper(table)
            others = [(1, tree_density(tree)), (weight[0] + weight[1], weight[1]), (weight[0] - weight[1], weight[1])]
            others.extend([(weight[0] * 2, weight[1] * 2), (-weight[0], -weight[1]), list(weight), weight + (1,)])
            for other in others + no_fractions():
                self.look(False, table, (order, lines, (tree, other)))

    def test_odd_with_another_count_of_knots(self):
        for table in tables_of_each_order():
            order, lines, odd = order_paper(table)
            for tree in trees_to(6):
                if tree not in trees_of(order + 1):
                    self.look(False, table, (order, lines, (tree, odd[1])))
            for tree in [lines[-1][0]] if lines else []:
                self.look(False, table, (order, lines, (tree, plain_weight(table, tree))))
            for tree in trees_of(order + 2)[:2]:
                self.look(False, table, (order, lines, (tree, plain_weight(table, tree))))

    def test_odd_that_is_no_tree(self):
        for table in tables_of_each_order():
            order, lines, odd = order_paper(table)
            for thing in no_trees():
                self.look(False, table, (order, lines, (thing, odd[1])))
        # a tree of four knots that misses, its boughs in the wrong order
        table = table_of("third")
        order, lines, odd = order_paper(table)
        weight = plain_weight(table, (PAIR, KNOT))
        self.look(False, table, (order, lines, ((KNOT, PAIR), weight)))

    def test_odd_that_has_its_true_weight(self):
        # fork and chain of three knots: the table misses at the chain alone
        table = ([[], [(2, 3)]], [(1, 4), (3, 4)])
        lines = [(KNOT, ONE), (PAIR, HALF)]
        self.look(False, table, (2, lines, (FORK, (1, 3))))
        self.look(False, table, (2, lines, (CHAIN, (1, 6))))
        self.look(True, table, (2, lines, (CHAIN, NO)))

    def test_anything_else(self):
        for table in tables_of_each_order():
            paper = order_paper(table)
            others = [list(paper), paper[:2], paper[1:], paper + (None,), paper + (paper[2],), (paper,), [paper]]
            others.extend([paper[::-1], (paper[0], paper[2], paper[1]), {}, (None, None, None), ((), (), ())])
            for other in others + odd_things():
                self.look(False, table, other)

    def test_papers_of_other_tables(self):
        papers = [order_paper(table_of(name)) for name in NAMES]
        for name, paper in zip(NAMES, papers):
            for other, due in zip(NAMES, papers):
                self.look(name == other, table_of(other), paper)

    def test_a_table_that_was_changed_fails_its_old_paper(self):
        for name in NAMES:
            rows, last = table_of(name)
            paper = order_paper((rows, last))
            for k, part in enumerate(last):
                self.look(False, (rows, changed_at(last, k, (part[0] + part[1], part[1]))), paper)

    def test_the_judge_weighs_by_himself(self):
        papers = [(table, order_paper(table)) for table in tables_of_each_order()]
        with mock.patch("stepgrove.weights.readings", side_effect=AssertionError("not the judge's own walk")):
            with self.assertRaises(AssertionError):
                order_paper(table_of("heel"))
            for table, paper in papers:
                self.look(True, table, paper)

    def test_what_is_handed_in_stays(self):
        for name in NAMES:
            own_answer(self, judge_paper, table_of(name), order_paper(table_of(name)))
            own_answer(self, judge_paper, table_of(name), list(order_paper(table_of(name))))

    def test_no_table(self):
        for thing in no_tables():
            with self.subTest(thing):
                refused(self, NoTable, judge_paper, thing, order_paper(table_of("plain")))
                refused(self, NoTable, judge_paper, thing, None)

    def test_too_many_rows(self):
        for table in more_than_five_rows():
            for paper in (order_paper(table_of("plain")), None, (0, [], (KNOT, plain_weight(table, KNOT)))):
                refused(self, TooMany, judge_paper, table, paper)


if __name__ == "__main__":
    unittest.main()
