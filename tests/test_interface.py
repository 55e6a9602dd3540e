"""The interface section: names, arguments, and where they are defined."""

import importlib
import inspect
import unittest

FUNCTIONS = {
    "barclips.gaps": {
        "first_gap": "(grids, start)",
        "cycle_of": "(grids)",
        "needless": "(grids)",
    },
    "barclips.shares": {
        "gaps_between": "(grids, low, high)",
        "nth_gap": "(grids, start, count)",
        "gap_share": "(grids)",
    },
}
CLASSES = {
    "barclips.errors": {
        "BarclipsError": {},
        "BadName": {"__init__": "(self, name)"},
        "BadNumber": {"__init__": "(self, value)"},
        "BadWord": {"__init__": "(self, word)"},
        "BadLine": {"__init__": "(self, number)"},
        "BadSetting": {"__init__": "(self, size)"},
        "TooMany": {"__init__": "(self, kind, most)"},
        "NoClips": {"__init__": "(self, name)"},
        "Twice": {"__init__": "(self, name)"},
        "Unknown": {"__init__": "(self, name)"},
        "EmptyClip": {"__init__": "(self, name)"},
        "NotEmpty": {"__init__": "(self, name)"},
        "NotArmed": {"__init__": "(self, name)"},
        "NotHeld": {"__init__": "(self, name)"},
        "OffGrid": {"__init__": "(self, tick)"},
        "Apart": {"__init__": "(self, first, second)"},
        "NothingToUndo": {"__init__": "(self)"},
    },
    "barclips.grids": {
        "Grid": {
            "__init__": "(self, step, offset=0)",
            "tick_of": "(self, number)",
            "number_of": "(self, tick)",
            "at_or_after": "(self, tick)",
            "at_or_before": "(self, tick)",
            "between": "(self, low, high)",
            "within": "(self, second)",
            "common": "(first, second)",
            "read": "(cls, word)",
        },
    },
}
OPERATORS = {
    "barclips.grids.Grid": [
        "__str__", "__add__", "__radd__", "__sub__", "__mul__", "__rmul__", "__floordiv__", "__rfloordiv__",
        "__rmod__", "__and__", "__eq__", "__contains__",
    ],
}


def plain(member):
    return member.__func__ if isinstance(member, (staticmethod, classmethod)) else member


class InterfaceTests(unittest.TestCase):
    def test_functions_are_defined_in_their_files(self):
        for module_name, functions in FUNCTIONS.items():
            module = importlib.import_module(module_name)
            for name, signature in functions.items():
                with self.subTest(module_name, name=name):
                    function = getattr(module, name)
                    self.assertEqual(function.__module__, module_name)
                    self.assertEqual(str(inspect.signature(function)), signature)

    def test_methods_are_defined_in_their_classes(self):
        for module_name, classes in CLASSES.items():
            module = importlib.import_module(module_name)
            for name, methods in classes.items():
                owner = getattr(module, name)
                self.assertEqual(owner.__module__, module_name)
                for method, signature in methods.items():
                    with self.subTest(name, method=method):
                        self.assertEqual(str(inspect.signature(plain(vars(owner)[method]))), signature)

    def test_operators_are_defined_in_their_classes(self):
        for place, operators in OPERATORS.items():
            module_name, _, name = place.rpartition(".")
            owner = getattr(importlib.import_module(module_name), name)
            for operator in operators:
                with self.subTest(name, operator=operator):
                    self.assertTrue(callable(vars(owner)[operator]))

    def test_kinds_of_methods(self):
        grid = importlib.import_module("barclips.grids").Grid
        self.assertIsInstance(vars(grid)["common"], staticmethod)
        self.assertIsInstance(vars(grid)["read"], classmethod)


if __name__ == "__main__":
    unittest.main()
