"""The interface section: names, arguments, and where they are defined."""

import importlib
import inspect
import unittest

FUNCTIONS = {
    "barclips.gaps": {
        "first_gap": "(grids, start)",
        "cycle_of": "(grids)",
        "needless": "(grids)",
    },
    "barclips.shares": {
        "gaps_between": "(grids, low, high)",
        "nth_gap": "(grids, start, count)",
        "gap_share": "(grids)",
    },
    "barclips.partings": {
        "parting": "(first, second, start)",
    },
    "barclips.settings": {
        "check_setting": "(stage, setting)",
        "playing": "(stage, setting, tick)",
        "closers": "(stage, setting, tick)",
        "moved": "(setting, ticks)",
        "same_sound": "(stage, first, second)",
    },
    "barclips.bars": {
        "closings": "(stage, lead, setting)",
        "verdict": "(stage, lead, setting, since)",
        "walk": "(stage, lead, setting, since, count)",
    },
    "barclips.counts": {
        "open_between": "(stage, lead, setting, low, high)",
        "nth_open": "(stage, lead, setting, since, count)",
        "open_share": "(stage, lead, setting)",
        "bar_parting": "(stage, lead, first, second, since)",
    },
    "barclips.ways": {
        "ways": "(stage, lead, bar)",
    },
    "barclips.waits": {
        "longest": "(stage, lead)",
        "worst": "(stage, lead, number)",
    },
    "barclips.papers": {
        "check_reach": "(stage, lead, setting, number, bars)",
        "check_owners": "(stage, lead, setting, owners)",
        "check_tree": "(stage, lead, tree, *, limit, number=None)",
    },
    "barclips.patience": {
        "swallowing": "(stage, lead, patience)",
        "enough": "(stage, lead)",
        "latest": "(stage, lead, tick)",
        "silence": "(stage, lead, patience)",
    },
    "barclips.together": {
        "together": "(stage, *wishes)",
        "apart_pair": "(stage, *wishes)",
        "next_meeting": "(stage, setting, since, *wishes)",
    },
    "barclips.records": {
        "recordings": "(stage, name, lead, most)",
    },
    "barclips.deeds": {
        "perform": "(desk, text)",
    },
    "barclips.sheets": {
        "sheet": "(stage, lead, setting, since, count)",
    },
}
CLASSES = {
    "barclips.errors": {
        "BarclipsError": {},
        "BadName": {"__init__": "(self, name)"},
        "BadNumber": {"__init__": "(self, value)"},
        "BadWord": {"__init__": "(self, word)"},
        "BadLine": {"__init__": "(self, number)"},
        "BadSetting": {"__init__": "(self, size)"},
        "TooMany": {"__init__": "(self, kind, most)"},
        "NoClips": {"__init__": "(self, name)"},
        "Twice": {"__init__": "(self, name)"},
        "Unknown": {"__init__": "(self, name)"},
        "EmptyClip": {"__init__": "(self, name)"},
        "NotEmpty": {"__init__": "(self, name)"},
        "NotArmed": {"__init__": "(self, name)"},
        "NotHeld": {"__init__": "(self, name)"},
        "OffGrid": {"__init__": "(self, tick)"},
        "Apart": {"__init__": "(self, first, second)"},
        "NothingToUndo": {"__init__": "(self)"},
    },
    "barclips.grids": {
        "Grid": {
            "__init__": "(self, step, offset=0)",
            "tick_of": "(self, number)",
            "number_of": "(self, tick)",
            "at_or_after": "(self, tick)",
            "at_or_before": "(self, tick)",
            "between": "(self, low, high)",
            "within": "(self, second)",
            "common": "(first, second)",
            "read": "(cls, word)",
        },
    },
    "barclips.sounds": {
        "Sound": {"__init__": "(self, name, grid)", "words": "(self)"},
        "Clip": {"__init__": "(self, name, *, grid, length, rounds=1, guards=())", "words": "(self)"},
        "Lead": {"__init__": "(self, name, *, grid, length, stops=())", "words": "(self)"},
    },
    "barclips.tracks": {
        "Track": {
            "__init__": "(self, name, *clips)",
            "start_of": "(self, name)",
            "clip_of": "(self, name)",
            "place_of": "(self, name, turn, step)",
            "where": "(self, place)",
        },
    },
    "barclips.stages": {
        "Stage": {
            "__init__": "(self, tracks, leads=())",
            "find_track": "(self, name)",
            "find_lead": "(self, name)",
            "find_clip": "(self, name)",
            "track_with": "(self, name)",
            "recorded": "(self, name, length)",
            "without": "(self, *names)",
            "write": "(self)",
            "read": "(cls, text)",
        },
    },
    "barclips.bars": {
        "Verdict": {"line": "(self)"},
        "Opening": {"line": "(self)"},
        "Lockout": {"line": "(self)"},
        "Gate": {"__init__": "(self, stage, lead)", "__call__": "(self, setting, tick)"},
    },
    "barclips.waits": {"Wait": {}},
    "barclips.together": {"Meeting": {}},
    "barclips.desks": {
        "Desk": {
            "__init__": "(self, stage, now=0)",
            "press": "(self, name)",
            "stop": "(self, name)",
            "hold": "(self, name, patience=None)",
            "drop": "(self, name)",
            "arm": "(self, name)",
            "advance": "(self, ticks)",
            "go_to": "(self, tick)",
            "undo": "(self)",
            "attempt": "(self, deeds)",
        },
    },
}
OPERATORS = {
    "barclips.grids.Grid": [
        "__str__", "__add__", "__radd__", "__sub__", "__mul__", "__rmul__", "__floordiv__", "__rfloordiv__",
        "__rmod__", "__and__", "__eq__", "__contains__",
    ],
    "barclips.tracks.Track": ["__iter__", "__contains__"],
    "barclips.bars.Verdict": ["__bool__"],
    "barclips.desks.Desk": ["__getitem__", "__setitem__", "__contains__", "__iadd__", "__iter__"],
}
PROPERTIES = {
    "barclips.sounds.Clip": ["span"],
    "barclips.tracks.Track": ["empty"],
    "barclips.waits.Wait": ["forever"],
    "barclips.desks.Desk": ["stage", "now", "entries", "waiting", "holds", "armed", "sounding"],
}
CLASS_VALUES = {
    "barclips.sounds.Clip": {"ROUNDS": 4},
    "barclips.sounds.Lead": {"PATIENCE": 64},
    "barclips.tracks.Track": {"CLIPS": 3},
    "barclips.stages.Stage": {"TRACKS": 6, "LEADS": 4, "CLIPS": 8, "GUARDS": 6},
}


def plain(member):
    return member.__func__ if isinstance(member, (staticmethod, classmethod)) else member


def class_at(place):
    module_name, _, name = place.rpartition(".")
    return getattr(importlib.import_module(module_name), name)


class InterfaceTests(unittest.TestCase):
    def test_functions_are_defined_in_their_files(self):
        for module_name, functions in FUNCTIONS.items():
            module = importlib.import_module(module_name)
            for name, signature in functions.items():
                with self.subTest(module_name, name=name):
                    function = getattr(module, name)
                    self.assertEqual(function.__module__, module_name)
                    self.assertEqual(str(inspect.signature(function)), signature)

    def test_methods_are_defined_in_their_classes(self):
        for module_name, classes in CLASSES.items():
            module = importlib.import_module(module_name)
            for name, methods in classes.items():
                owner = getattr(module, name)
                self.assertEqual(owner.__module__, module_name)
                for method, signature in methods.items():
                    with self.subTest(name, method=method):
                        self.assertEqual(str(inspect.signature(plain(vars(owner)[method]))), signature)

    def test_operators_are_defined_in_their_classes(self):
        for place, operators in OPERATORS.items():
            for operator in operators:
                with self.subTest(place, operator=operator):
                    self.assertTrue(callable(vars(class_at(place))[operator]))

    def test_properties_and_class_values_are_defined_in_their_classes(self):
        for place, names in PROPERTIES.items():
            for name in names:
                with self.subTest(place, name=name):
                    self.assertIsInstance(vars(class_at(place))[name], property)
        for place, values in CLASS_VALUES.items():
            for name, value in values.items():
                with self.subTest(place, name=name):
                    self.assertEqual(vars(class_at(place))[name], value)

    def test_kinds_of_methods(self):
        grid, stage = class_at("barclips.grids.Grid"), class_at("barclips.stages.Stage")
        self.assertIsInstance(vars(grid)["common"], staticmethod)
        self.assertIsInstance(vars(grid)["read"], classmethod)
        self.assertIsInstance(vars(stage)["read"], classmethod)

    def test_base_classes(self):
        for place, base in (
            ("barclips.sounds.Clip", "barclips.sounds.Sound"), ("barclips.sounds.Lead", "barclips.sounds.Sound"),
            ("barclips.bars.Opening", "barclips.bars.Verdict"), ("barclips.bars.Lockout", "barclips.bars.Verdict"),
        ):
            self.assertEqual(class_at(place).__bases__, (class_at(base),))


if __name__ == "__main__":
    unittest.main()
