"""The interface: each name stands in its own file, with the arguments that the document lists."""

import importlib
import inspect
import unittest

FUNCTIONS = {
    "tworows.values": {
        "is_name": "(thing)",
        "is_value": "(kind, thing)",
        "is_ahead": "(one, other)",
        "kind_of": "(value)",
        "next_value": "(value)",
        "up": "(text)",
    },
    "tworows.logic": {
        "compare": "(column, op, value)",
        "against": "(column, op, other, *, more=0)",
        "among": "(column, values)",
        "begins": "(column, prefix)",
        "empty": "(column)",
        "always": "()",
        "never": "()",
        "sure": "(test)",
        "conjuncts": "(test)",
    },
    "tworows.basics": {
        "basics": "(test)",
        "basic_truth": "(atom, row)",
    },
    "tworows.shapes": {
        "fits": "(shape, test)",
        "need_test": "(shape, thing)",
        "check_row": "(shape, row)",
        "fits_row": "(shape, thing)",
        "check_table": "(shape, rows)",
        "may_stand": "(shape, thing)",
    },
    "tworows.wants": {
        "need_wants": "(shape, wants)",
        "count_atoms": "(shape, wants)",
    },
    "tworows.trees": {
        "possible": "(shape, test, way)",
        "leaf_holds": "(shape, wants, way, leaf)",
        "shows_none": "(shape, wants, tree)",
    },
    "tworows.search": {
        "find_row": "(shape, wants)",
    },
    "tworows.scopes": {
        "within": "(shape, one, other)",
        "never_comes": "(shape, test)",
        "alike": "(shape, one, other)",
        "same_truth": "(shape, one, other)",
        "fixed": "(shape, test, column)",
        "left_over": "(shape, test, given)",
    },
    "tworows.orders": {
        "need_order": "(thing)",
        "order_in": "(shape, thing)",
        "turned": "(order)",
        "alike_in": "(names, row, other)",
        "comes_ahead": "(order, row, other)",
        "sort_rows": "(order, rows)",
    },
    "tworows.texts": {
        "test_text": "(test)",
        "order_text": "(order)",
        "claim_text": "(claim)",
        "rule_text": "(rule)",
        "plan_text": "(plan)",
        "shape_text": "(shape)",
        "read_test": "(text)",
        "read_order": "(text)",
        "read_claim": "(text)",
        "read_rule": "(text)",
        "read_plan": "(text)",
        "read_shape": "(text)",
    },
    "tworows.pairs": {
        "is_small": "(shape)",
        "copies": "(shape, n)",
        "copy_test": "(test, i)",
        "rows_of": "(shape, n, row)",
        "same": "(names, i, j)",
        "ahead": "(order, i, j)",
        "clash": "(key, i, j)",
        "need_claim": "(thing)",
        "cases_of": "(shape, claim)",
        "claim_holds": "(shape, claim)",
        "breaks": "(shape, claim, rows)",
        "shows_claim": "(shape, claim, answer)",
    },
    "tworows.plans": {
        "run_step": "(step, rows)",
        "run": "(shape, plan, table)",
        "standing_order": "(plan, i)",
        "can_stand": "(shape, plan, i, rows)",
        "cases_of_idle": "(shape, plan, i)",
        "cases_of_exchange": "(shape, plan, i)",
        "idle": "(shape, plan, i)",
        "may_exchange": "(shape, plan, i)",
        "shows_idle": "(shape, plan, i, answer)",
        "shows_exchange": "(shape, plan, i, answer)",
    },
    "tworows.moves": {
        "moves": "(shape, plan)",
        "shows_moves": "(shape, plan, steps, end)",
        "cheapest": "(shape, plan, prices, *, limit=500)",
        "cases_of_offer": "(shape, plan, order, test)",
        "offer_stands": "(shape, plan, order, test)",
    },
    "tworows.rules": {
        "with_rules": "(shape, rules)",
        "bare": "(shape, kept)",
        "own_rules": "(shape)",
        "mends": "(shape, claim, candidates)",
        "needed_rules": "(shape, claim)",
    },
}

CLASSES = {
    ("tworows.logic", "Test"): {
        "kind": "(self)",
        "parts": "(self)",
        "atoms": "(self)",
        "names": "(self)",
        "levels": "(self)",
        "renamed": "(self, mapping)",
        "truth": "(self, row)",
        "__and__": "(self, other)",
        "__or__": "(self, other)",
        "__invert__": "(self)",
        "__eq__": "(self, other)",
        "__str__": "(self)",
    },
    ("tworows.shapes", "Shape"): {
        "__init__": "(self, columns, *, checks=(), keys=())",
        "columns": "(self)",
        "names": "(self)",
        "checks": "(self)",
        "unique_keys": "(self)",
        "kind": "(self, name)",
        "filled": "(self, name)",
        "with_check": "(self, test)",
        "with_key": "(self, key)",
        "with_filled": "(self, name)",
        "__eq__": "(self, other)",
    },
    ("tworows.scopes", "Scope"): {
        "__init__": "(self, shape, test)",
        "base": "(self)",
        "test": "(self)",
        "rows": "(self, table)",
        "is_empty": "(self)",
        "__le__": "(self, other)",
        "__ge__": "(self, other)",
        "__lt__": "(self, other)",
        "__gt__": "(self, other)",
        "__eq__": "(self, other)",
        "__and__": "(self, other)",
        "__or__": "(self, other)",
        "__sub__": "(self, other)",
        "__invert__": "(self)",
        "__contains__": "(self, row)",
    },
    ("tworows.plans", "Plan"): {
        "__init__": "(self, steps)",
        "steps": "(self)",
        "__eq__": "(self, other)",
        "__len__": "(self)",
    },
    ("tworows.store", "Store"): {
        "__init__": "(self, shape)",
        "put": "(self, row)",
        "drop": "(self, row_id)",
        "ids": "(self)",
        "table": "(self)",
        "shape": "(self)",
        "change": "(self, test, sets)",
        "strike": "(self, test)",
        "ask": "(self, plan)",
        "together": "(self, deeds)",
        "twin": "(self)",
        "__getitem__": "(self, row_id)",
        "__setitem__": "(self, row_id, row)",
        "__contains__": "(self, row_id)",
        "__len__": "(self)",
        "__ior__": "(self, other)",
        "__eq__": "(self, other)",
    },
    ("tworows.desk", "Desk"): {
        "__init__": "(self, shape)",
        "shape": "(self)",
        "add_rule": "(self, rule)",
        "drop_rule": "(self, name)",
        "undo": "(self)",
        "redo": "(self)",
        "watch": "(self, claim)",
        "watched": "(self)",
        "asked": "(self, claim)",
        "do_line": "(self, text)",
    },
}


class InterfaceTest(unittest.TestCase):
    def test_functions_stand_in_their_file(self):
        for file, functions in FUNCTIONS.items():
            module = importlib.import_module(file)
            for name, arguments in functions.items():
                function = getattr(module, name)
                self.assertTrue(inspect.isfunction(function), name)
                self.assertEqual(function.__module__, file, name)
                self.assertEqual(str(inspect.signature(function)), arguments, name)

    def test_methods_stand_in_the_class_itself(self):
        for (file, name), methods in CLASSES.items():
            found = getattr(importlib.import_module(file), name)
            self.assertEqual(found.__module__, file)
            for method, arguments in methods.items():
                self.assertIn(method, vars(found))
                self.assertEqual(str(inspect.signature(vars(found)[method])), arguments, method)


if __name__ == "__main__":
    unittest.main()
