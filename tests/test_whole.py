"""What is promised over the whole program, function by function."""

import copy
import importlib
import unittest

from stepgrove import errors
from stepgrove.desk import Desk
from stepgrove.errors import (
    GroveError, NoBottom, NoChange, NoLine, NoName, NoParts, NoStart, NotAlike, NoTable, NoText, NoTree, NoWeighing,
    TooMany,
)
from stepgrove.growth import growth_rows
from stepgrove.joins import table_behind, table_sharpened
from stepgrove.orders import parting_change, table_order
from stepgrove.steps import step_rows
from stepgrove.tables import table_of
from stepgrove.trees import tree_density, tree_knots
from stepgrove.weights import table_weight

from plain import chances, some_change, some_start, some_tables
from test_interface import ARGUMENTS
from things import OF_ORDER_3, OF_ORDER_5, OF_ORDER_6, lists_within, no_trees, own_answer, refused

ONE = (1, 1)
HALF = (1, 2)
PAIR = ((),)
CHANGE = [[((0, 1), ONE)], [((1, 1), (1, 3)), ((0, 0), (-2, 1))]]
START = [(2, 1), (1, 3)]
TABLE = ([[], [(1, 3)], [(0, 1), (2, 3)]], [(1, 4), (0, 1), (3, 4)])
WIDE = ([[HALF] * k for k in range(21)], [ONE] * 21)
WEIGHING = [ONE, HALF, (1, 3), (-1, 5)]
POLY = [((2, 0), HALF), ((0, 1), (3, 1))]
PAPER = (1, [((), ONE)], (PAIR, (0, 1)))
FIVE = [[((0,) * 5, ONE)]] * 5

# For each function what may be handed in.
GOOD = {
    "fraction_of": [(6, -4), (0, 7)],
    "frac_sum": [(HALF, (1, 3))],
    "frac_less": [(HALF, (1, 3))],
    "frac_times": [(HALF, (2, 3))],
    "frac_by": [(HALF, (1, 3))],
    "is_fraction": [(HALF,), ([1, 2],)],
    "is_tree": [((PAIR, ()),), ([[]],)],
    "kept_tree": [(((), PAIR),)],
    "tree_knots": [((PAIR, ()),)],
    "tree_density": [((PAIR, ()),)],
    "tree_turns": [(((), ()),)],
    "tree_ways": [((PAIR, ()),)],
    "trees_of": [(4,)],
    "trees_to": [(0,), (4,)],
    "tree_ties": [((PAIR, ()),)],
    "tree_cuts": [((PAIR, ()),)],
    "poly_sum": [(POLY, POLY), (POLY, [])],
    "poly_times": [(POLY, POLY), (POLY, [])],
    "poly_scaled": [(POLY, HALF), (POLY, ONE), (POLY, (0, 1))],
    "poly_slope": [(POLY, 0), (POLY, 1)],
    "poly_at": [(POLY, START)],
    "is_change": [(CHANGE,), ([CHANGE],)],
    "change_speeds": [(CHANGE, START)],
    "bent_change": [(CHANGE, ()), (CHANGE, PAIR), ([[], []], ())],
    "bent_at": [(CHANGE, (), START), (CHANGE, PAIR, START)],
    "growth_rows": [(CHANGE, START, 0), (CHANGE, START, 4)],
    "is_table": [(TABLE,), ([TABLE],)],
    "table_of": [("plain",), ("fourth",)],
    "step_to": [(TABLE, CHANGE, START, HALF), (TABLE, [[], []], START, HALF)],
    "step_rows": [(TABLE, CHANGE, START, 0), (TABLE, CHANGE, START, 4)],
    "table_weight": [(TABLE, PAIR)],
    "table_weighing": [(TABLE, 0), (TABLE, 4)],
    "true_weighing": [(0,), (4,)],
    "weighing_reach": [(WEIGHING,), ([],)],
    "grove_rows": [(CHANGE, START, WEIGHING), (CHANGE, START, [])],
    "table_order": [(TABLE,), (OF_ORDER_6,)],
    "weighing_order": [(WEIGHING,), ([],)],
    "parting_change": [(PAIR,)],
    "parted_weighings": [(WEIGHING, [ONE]), (WEIGHING, [HALF])],
    "order_paper": [(TABLE,)],
    "judge_paper": [(TABLE, PAPER), (TABLE, [PAPER])],
    "table_behind": [(TABLE, TABLE)],
    "table_shrunk": [(TABLE, HALF), (TABLE, ONE)],
    "table_mixed": [([TABLE, TABLE], [HALF, ONE]), ([TABLE], [ONE])],
    "table_sharpened": [(TABLE, 3)],
    "weighing_composed": [(WEIGHING, WEIGHING), ([], [])],
    "weighing_undone": [(WEIGHING,), ([],)],
    "weighing_turned": [(WEIGHING, HALF), (WEIGHING, ONE)],
    "weighing_mirrored": [(WEIGHING,), ([],)],
    "flow_weighing": [(WEIGHING,), ([],), ([ONE],)],
    "followed_weighing": [(WEIGHING,), ([],), ([ONE],)],
    "followed_changes": [(CHANGE, WEIGHING), (CHANGE, []), (CHANGE, [ONE]), ([[], []], WEIGHING)],
    "shown_tree": [(PAIR,)],
    "read_tree": [("[[]]",)],
    "shown_table": [(TABLE,)],
    "read_table": [("row\nrow 1/2\nlast 0 1",)],
    "shown_change": [(CHANGE,)],
    "read_change": [("x = 1*y\ny = 0",)],
}

# For each refusal of a function what is refused with it; where a later one is due as well, the first is told.
BAD = {
    "fraction_of": [(NoBottom, (1, 0)), (NoBottom, (0, 0))],
    "frac_by": [(NoBottom, (HALF, (0, 1)))],
    "kept_tree": [(NoTree, ([],)), (NoTree, (((), [()]),))],
    "tree_knots": [(NoTree, (((), PAIR),))],
    "tree_density": [(NoTree, (((), PAIR),))],
    "tree_turns": [(NoTree, (((), PAIR),))],
    "tree_ways": [(NoTree, (((), PAIR),))],
    "trees_of": [(TooMany, (0,)), (TooMany, (8,)), (TooMany, (-1,))],
    "trees_to": [(TooMany, (-1,)), (TooMany, (8,))],
    "tree_ties": [(NoTree, (((), PAIR),))],
    "tree_cuts": [(NoTree, (((), PAIR),))],
    "poly_at": [(NoStart, (POLY, [ONE]))],
    "change_speeds": [(NoChange, ([], [])), (NoChange, ([POLY], None)), (NoStart, (CHANGE, [ONE]))],
    "bent_change": [(NoChange, ([], PAIR)), (NoChange, ([], None)), (NoTree, (CHANGE, ((), PAIR)))],
    "bent_at": [
        (NoChange, ([], None, None)), (NoChange, ([], PAIR, [])), (NoTree, (CHANGE, None, None)),
        (NoTree, (CHANGE, ((), PAIR), START)), (NoStart, (CHANGE, PAIR, [ONE]))],
    "growth_rows": [
        (NoChange, ([], None, 8)), (NoStart, (CHANGE, [ONE], 8)), (TooMany, (CHANGE, START, 8)),
        (TooMany, (CHANGE, START, -1))],
    "table_of": [(NoName, ("",)), (NoName, ("Plain",))],
    "step_to": [
        (NoTable, (None, None, None, HALF)), (NoChange, (TABLE, [], None, HALF)), (NoStart, (TABLE, CHANGE, [], HALF))],
    "step_rows": [
        (NoTable, (None, None, None, 8)), (NoChange, (TABLE, [], None, 8)), (NoStart, (TABLE, CHANGE, [], 8)),
        (TooMany, (TABLE, CHANGE, START, 8)), (TooMany, (TABLE, CHANGE, START, -1))],
    "table_weight": [(NoTable, (None, None)), (NoTree, (TABLE, ((), PAIR)))],
    "table_weighing": [(NoTable, (None, 8)), (TooMany, (TABLE, 8)), (TooMany, (TABLE, -1))],
    "true_weighing": [(TooMany, (8,)), (TooMany, (-1,))],
    "weighing_reach": [(NoWeighing, ([ONE] * 3,)), (NoWeighing, ((),))],
    "grove_rows": [
        (NoChange, ([], None, None)), (NoStart, (CHANGE, [], None)), (NoWeighing, (CHANGE, START, [ONE] * 3))],
    "table_order": [(NoTable, (([[]], []),))],
    "weighing_order": [(NoWeighing, ([ONE] * 3,))],
    "parting_change": [(NoTree, (((), PAIR),))],
    "parted_weighings": [(NoWeighing, (WEIGHING, [ONE] * 3)), (NoWeighing, ([ONE] * 3, WEIGHING))],
    "order_paper": [(NoTable, (([[]], []),)), (TooMany, (WIDE,))],
    "judge_paper": [(NoTable, (([[]], []), PAPER)), (TooMany, (WIDE, PAPER))],
    "table_behind": [(NoTable, (WIDE, None)), (NoTable, (None, WIDE)), (TooMany, (WIDE, WIDE))],
    "table_shrunk": [(NoTable, (([[]], []), HALF))],
    "table_mixed": [
        (NoTable, ([WIDE, WIDE, None], [])), (NoParts, ([WIDE, WIDE], [ONE])), (NoParts, ([], [])),
        (TooMany, ([WIDE, WIDE], [ONE, ONE]))],
    "table_sharpened": [
        (NoTable, (None, 7)), (TooMany, (TABLE, 7)), (TooMany, (TABLE, 0)), (TooMany, (WIDE, 3))],
    "weighing_composed": [
        (NoWeighing, ([ONE] * 3, WEIGHING)), (NoWeighing, (WEIGHING, [ONE] * 3)), (NotAlike, (WEIGHING, [ONE])),
        (NotAlike, ([], WEIGHING))],
    "weighing_undone": [(NoWeighing, ([ONE] * 3,))],
    "weighing_turned": [(NoWeighing, ([ONE] * 3, HALF))],
    "weighing_mirrored": [(NoWeighing, ([ONE] * 3,))],
    "flow_weighing": [(NoWeighing, ([ONE] * 3,))],
    "followed_weighing": [(NoWeighing, ([ONE] * 3,))],
    "followed_changes": [(NoChange, ([], None)), (NoWeighing, (CHANGE, [ONE] * 3))],
    "shown_tree": [(NoTree, (((), PAIR),))],
    "read_tree": [(NoText, ("[[][[]]]",)), (NoText, ("",))],
    "shown_table": [(NoTable, (([[]], []),))],
    "read_table": [(NoText, ("row\nlast",)), (NoText, ("",))],
    "shown_change": [(NoChange, ([],)), (NoChange, (FIVE + [[]],)), (TooMany, (FIVE,))],
    "read_change": [(NoText, ("x = x",)), (NoText, ("",))],
}

# Those that tell something of anything, and those that take all of the kinds told in the interface.
REFUSE_NOTHING = [
    "frac_sum", "frac_less", "frac_times", "is_fraction", "is_tree", "poly_sum", "poly_times", "poly_scaled",
    "poly_slope", "is_change", "is_table",
]

# Where a tree is handed in: the function, what stands ahead of the tree and what behind it.
TAKE_TREES = [
    ("tree_knots", (), ()), ("tree_density", (), ()), ("tree_turns", (), ()), ("tree_ways", (), ()),
    ("tree_ties", (), ()), ("tree_cuts", (), ()), ("bent_change", (CHANGE,), ()), ("bent_at", (CHANGE,), (START,)),
    ("table_weight", (TABLE,), ()), ("parting_change", (), ()), ("shown_tree", (), ()),
]


def functions():
    found = {}
    for module, names in ARGUMENTS.items():
        for name in names:
            if name != "Desk":
                found[name] = getattr(importlib.import_module("stepgrove." + module), name)
    return found


class EachFunction(unittest.TestCase):
    def test_each_one_is_looked_at(self):
        names = sorted(functions())
        self.assertEqual(sorted(GOOD), names)
        self.assertEqual(sorted(list(BAD) + REFUSE_NOTHING), names)

    def test_what_is_handed_in_stays_and_what_is_told_is_the_askers_own(self):
        for name, function in functions().items():
            for handed in GOOD[name]:
                with self.subTest(name, handed=handed):
                    own_answer(self, function, *handed)

    def test_what_one_tells_another_does_not_change(self):
        told = {name: function(*copy.deepcopy(GOOD[name][-1])) for name, function in functions().items()}
        before = copy.deepcopy(told)
        for name, function in functions().items():
            for handed in GOOD[name]:
                for some in lists_within(function(*copy.deepcopy(handed))):
                    some.clear()
        self.assertEqual(told, before)

    def test_refusals_are_of_their_own_class_and_change_nothing(self):
        for name, cases in BAD.items():
            for kind, handed in cases:
                with self.subTest(name, handed=handed):
                    refused(self, kind, functions()[name], *copy.deepcopy(handed))

    def test_a_refusal_changes_no_later_answer(self):
        for name, function in functions().items():
            due = [copy.deepcopy(function(*handed)) for handed in GOOD[name]]
            for kind, handed in BAD.get(name, []):
                with self.assertRaises(kind):
                    function(*handed)
            self.assertEqual([function(*handed) for handed in GOOD[name]], due)

    def test_every_refusal_is_made_by_some_function(self):
        kinds = {kind for cases in BAD.values() for kind, handed in cases} | {NoLine}
        every = {thing for thing in vars(errors).values() if isinstance(thing, type) and thing is not GroveError}
        self.assertEqual(kinds, every)
        with self.assertRaises(NoLine):
            Desk().tell("")

    def test_what_is_no_tree_is_refused_wherever_one_is_handed_in(self):
        for name, ahead, behind in TAKE_TREES:
            for thing in no_trees():
                with self.subTest(name, thing=thing):
                    refused(self, NoTree, functions()[name], *ahead, thing, *behind)

    def test_each_function_with_a_tree_among_its_arguments_is_there(self):
        named = [name for names in ARGUMENTS.values() for name, arguments in names.items() if "tree" in arguments]
        self.assertEqual(sorted(named), sorted(name for name, ahead, behind in TAKE_TREES))

    def test_true_and_false_are_no_numbers(self):
        asked = functions()
        for other in (True, False):
            self.assertIs(asked["is_fraction"]((other, 1)), False)
            self.assertIs(asked["is_change"]([[((other,), ONE)]]), False)
            self.assertIs(asked["is_change"]([[((1,), (other, 1))]]), False)
            self.assertIs(asked["is_table"](([[]], [(other, 1)])), False)
            self.assertIs(asked["judge_paper"](table_of("plain"), (other, PAPER[1], PAPER[2])), False)
            self.assertIs(asked["judge_paper"](table_of("plain"), (1, [((), (other, 1))], PAPER[2])), False)
            for name in ("weighing_reach", "weighing_order", "weighing_undone", "weighing_mirrored", "flow_weighing"):
                refused(self, NoWeighing, asked[name], [(other, 1)])
            refused(self, NoStart, asked["change_speeds"], [[((1,), ONE)]], [(other, 1)])
        self.assertIs(asked["judge_paper"](table_of("plain"), PAPER), True)


class TheWhole(unittest.TestCase):
    """Point 1: how the order that is told shows in steps and in growth."""

    def tables(self):
        tables = some_tables() + [OF_ORDER_3, OF_ORDER_5, OF_ORDER_6, table_sharpened(table_of("fourth"), 4)]
        return tables + [table_behind(table_of("heel"), table_of("third"))]

    def test_step_and_growth_agree_up_to_the_order(self):
        chance = chances(1)
        for table in self.tables():
            order = table_order(table)[0]
            for unknowns in (1, 2, 3):
                change = some_change(chance, unknowns, 5, 3, 9)
                start = some_start(chance, unknowns, 9)
                self.assertEqual(step_rows(table, change, start, order), growth_rows(change, start, order))

    def test_they_part_at_the_told_tree_in_just_that_power(self):
        for table in self.tables():
            order, tree = table_order(table)
            if tree is None:
                self.assertEqual(order, 6)
                continue
            self.assertEqual(tree_knots(tree), order + 1)
            change, start = parting_change(tree)
            stepped = step_rows(table, change, start, 7)[0]
            grown = growth_rows(change, start, 7)[0]
            self.assertEqual([k for k in range(8) if stepped[k] != grown[k]], [order + 1])
            self.assertEqual(stepped[order + 1], table_weight(table, tree))
            self.assertEqual(grown[order + 1], (1, tree_density(tree)))


if __name__ == "__main__":
    unittest.main()
