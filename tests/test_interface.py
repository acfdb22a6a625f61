"""The names, arguments and methods that the document lists for the whole program."""

import importlib
import inspect
import unittest

FUNCTIONS = {
    "trees.texts": {"read_heaps": 1, "heaps_shown": 1},
    "trees.joins": {"is_tree": 2, "cost_of": 2, "depths_of": 2},
    "trees.words": {"tree_by": 1, "words_of": 2, "read_by": 2},
    "least.costs": {"least_cost": 1, "least_tree": 1, "cost_table": 1},
    "least.counted": {"count_cheapest": 1, "cheapest_trees": 2, "dearest": 1, "count_trees": 1, "count_of_cost": 2},
    "least.shown": {"table_shown": 2, "dear_part": 2},
    "least.within": {"least_within": 2, "least_depth": 1, "costs_by_depth": 1},
    "otherwise.steps": {"steps_of": 1, "depths_by_steps": 1, "tree_by_steps": 1},
    "otherwise.anyorder": {"any_cost": 1, "dearer_by": 1, "fall_then_rise": 1},
    "otherwise.several": {"cost_by_several": 2},
    "otherwise.ring": {"ring_cost": 1},
}

METHODS = {
    ("kept", "KeptHeaps"): {"put_left": 1, "put_right": 1, "take_left": 0, "take_right": 0, "heaps_now": 0,
                            "cost_now": 0, "part_now": 2, "within_now": 1},
    ("whole", "Desk"): {"ask": 1},
}

ERRORS = ("JoinError", "NoTree", "NoPlace", "NoAsk", "NoHeaps", "NoWord")


def arguments(function):
    return len(inspect.signature(function).parameters)


class Interface(unittest.TestCase):
    def test_functions(self):
        for name, functions in FUNCTIONS.items():
            module = importlib.import_module("joinedheaps." + name)
            for function, many in functions.items():
                self.assertEqual(arguments(getattr(module, function)), many, (name, function))

    def test_methods_stand_in_their_class(self):
        for (name, kind), methods in METHODS.items():
            kind = getattr(importlib.import_module("joinedheaps." + name), kind)
            kind()
            for method, many in methods.items():
                self.assertIn(method, vars(kind))
                self.assertEqual(arguments(vars(kind)[method]), many + 1, (name, method))

    def test_errors(self):
        module = importlib.import_module("joinedheaps.errors")
        for name in ERRORS:
            self.assertTrue(issubclass(getattr(module, name), ValueError))


if __name__ == "__main__":
    unittest.main()
