import importlib
import inspect
import unittest

ARGUMENTS = {
    "fracs": {
        "fraction_of": ["top", "bottom"],
        "frac_sum": ["one", "other"],
        "frac_less": ["one", "other"],
        "frac_times": ["one", "other"],
        "frac_by": ["one", "other"],
        "is_fraction": ["thing"],
    },
    "trees": {
        "is_tree": ["thing"],
        "kept_tree": ["thing"],
        "tree_knots": ["tree"],
        "tree_density": ["tree"],
        "tree_turns": ["tree"],
        "tree_ways": ["tree"],
        "trees_of": ["many"],
        "trees_to": ["most"],
    },
    "cuts": {
        "tree_ties": ["tree"],
        "tree_cuts": ["tree"],
    },
    "polys": {
        "poly_sum": ["one", "other"],
        "poly_times": ["one", "other"],
        "poly_scaled": ["some", "part"],
        "poly_slope": ["some", "k"],
        "poly_at": ["some", "start"],
    },
    "changes": {
        "is_change": ["thing"],
        "change_speeds": ["change", "start"],
        "bent_change": ["change", "tree"],
        "bent_at": ["change", "tree", "start"],
    },
    "growth": {
        "growth_rows": ["change", "start", "most"],
    },
    "tables": {
        "is_table": ["thing"],
        "table_of": ["name"],
    },
    "steps": {
        "step_to": ["table", "change", "start", "length"],
        "step_rows": ["table", "change", "start", "most"],
    },
    "weights": {
        "table_weight": ["table", "tree"],
        "table_weighing": ["table", "most"],
        "true_weighing": ["most"],
        "weighing_reach": ["weighing"],
    },
    "groves": {
        "grove_rows": ["change", "start", "weighing"],
    },
    "orders": {
        "table_order": ["table"],
        "weighing_order": ["weighing"],
        "parting_change": ["tree"],
        "parted_weighings": ["one", "other"],
    },
    "judging": {
        "order_paper": ["table"],
        "judge_paper": ["table", "paper"],
    },
    "joins": {
        "table_behind": ["one", "other"],
        "table_shrunk": ["table", "part"],
        "table_mixed": ["tables", "parts"],
        "table_sharpened": ["table", "order"],
    },
    "weighings": {
        "weighing_composed": ["one", "other"],
        "weighing_undone": ["weighing"],
        "weighing_turned": ["weighing", "part"],
        "weighing_mirrored": ["weighing"],
    },
    "follows": {
        "flow_weighing": ["numbers"],
        "followed_weighing": ["weighing"],
        "followed_changes": ["change", "weighing"],
    },
    "texts": {
        "shown_tree": ["tree"],
        "read_tree": ["text"],
        "shown_table": ["table"],
        "read_table": ["text"],
        "shown_change": ["change"],
        "read_change": ["text"],
    },
    "desk": {
        "Desk": [],
    },
}


class Interface(unittest.TestCase):
    def test_names_and_arguments_are_there_as_they_stand(self):
        for module, functions in ARGUMENTS.items():
            for name, arguments in functions.items():
                with self.subTest(name, module=module):
                    function = getattr(importlib.import_module("stepgrove." + module), name)
                    self.assertEqual(list(inspect.signature(function).parameters), arguments)

    def test_a_desk_is_told_lines(self):
        desk = importlib.import_module("stepgrove.desk").Desk
        self.assertTrue(inspect.isclass(desk))
        self.assertEqual(list(inspect.signature(desk().tell).parameters), ["line"])


if __name__ == "__main__":
    unittest.main()
