"""The interface: each name stands in its own file, with the arguments that the document lists."""

import importlib
import inspect
import unittest

FUNCTIONS = {
    "tworows.values": {
        "is_name": "(thing)",
        "is_value": "(kind, thing)",
        "is_ahead": "(one, other)",
        "kind_of": "(value)",
        "next_value": "(value)",
        "up": "(text)",
    },
    "tworows.logic": {
        "compare": "(column, op, value)",
        "against": "(column, op, other, *, more=0)",
        "among": "(column, values)",
        "begins": "(column, prefix)",
        "empty": "(column)",
        "always": "()",
        "never": "()",
        "sure": "(test)",
        "conjuncts": "(test)",
    },
    "tworows.basics": {
        "basics": "(test)",
        "basic_truth": "(atom, row)",
    },
    "tworows.shapes": {
        "fits": "(shape, test)",
        "need_test": "(shape, thing)",
        "check_row": "(shape, row)",
        "fits_row": "(shape, thing)",
        "check_table": "(shape, rows)",
        "may_stand": "(shape, thing)",
    },
    "tworows.wants": {
        "need_wants": "(shape, wants)",
        "count_atoms": "(shape, wants)",
    },
    "tworows.trees": {
        "possible": "(shape, test, way)",
        "leaf_holds": "(shape, wants, way, leaf)",
        "shows_none": "(shape, wants, tree)",
    },
    "tworows.search": {
        "find_row": "(shape, wants)",
    },
    "tworows.scopes": {
        "within": "(shape, one, other)",
        "never_comes": "(shape, test)",
        "alike": "(shape, one, other)",
        "same_truth": "(shape, one, other)",
        "fixed": "(shape, test, column)",
        "left_over": "(shape, test, given)",
    },
    "tworows.orders": {
        "need_order": "(thing)",
        "order_in": "(shape, thing)",
        "turned": "(order)",
        "alike_in": "(names, row, other)",
        "comes_ahead": "(order, row, other)",
        "sort_rows": "(order, rows)",
    },
}

CLASSES = {
    ("tworows.logic", "Test"): {
        "kind": "(self)",
        "parts": "(self)",
        "atoms": "(self)",
        "names": "(self)",
        "levels": "(self)",
        "renamed": "(self, mapping)",
        "truth": "(self, row)",
        "__and__": "(self, other)",
        "__or__": "(self, other)",
        "__invert__": "(self)",
        "__eq__": "(self, other)",
        "__str__": "(self)",
    },
    ("tworows.shapes", "Shape"): {
        "__init__": "(self, columns, *, checks=(), keys=())",
        "columns": "(self)",
        "names": "(self)",
        "checks": "(self)",
        "unique_keys": "(self)",
        "kind": "(self, name)",
        "filled": "(self, name)",
        "with_check": "(self, test)",
        "with_key": "(self, key)",
        "with_filled": "(self, name)",
        "__eq__": "(self, other)",
    },
    ("tworows.scopes", "Scope"): {
        "__init__": "(self, shape, test)",
        "base": "(self)",
        "test": "(self)",
        "rows": "(self, table)",
        "is_empty": "(self)",
        "__le__": "(self, other)",
        "__ge__": "(self, other)",
        "__lt__": "(self, other)",
        "__gt__": "(self, other)",
        "__eq__": "(self, other)",
        "__and__": "(self, other)",
        "__or__": "(self, other)",
        "__sub__": "(self, other)",
        "__invert__": "(self)",
        "__contains__": "(self, row)",
    },
}


class InterfaceTest(unittest.TestCase):
    def test_functions_stand_in_their_file(self):
        for file, functions in FUNCTIONS.items():
            module = importlib.import_module(file)
            for name, arguments in functions.items():
                function = getattr(module, name)
                self.assertTrue(inspect.isfunction(function), name)
                self.assertEqual(function.__module__, file, name)
                self.assertEqual(str(inspect.signature(function)), arguments, name)

    def test_methods_stand_in_the_class_itself(self):
        for (file, name), methods in CLASSES.items():
            found = getattr(importlib.import_module(file), name)
            self.assertEqual(found.__module__, file)
            for method, arguments in methods.items():
                self.assertIn(method, vars(found))
                self.assertEqual(str(inspect.signature(vars(found)[method])), arguments, method)


if __name__ == "__main__":
    unittest.main()
