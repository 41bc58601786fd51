"""[2], [50] to [79]: what stands where, under which names and with which arguments."""

import importlib
import inspect
import unittest

FUNCTIONS = {
    "overfloors.ratios": {
        "ratio_of": ["number"], "gcd_of": ["first", "second"], "lcm_of": ["first", "second"],
        "bezout": ["first", "second"], "ascending": ["numbers"], "least": ["numbers"], "greatest": ["numbers"],
    },
    "overfloors.points": {
        "cross": ["one", "other"], "value_at": ["form", "point"], "ascending_points": ["points"],
    },
    "overfloors.lines": {
        "lines_of": ["one", "other"], "fits": ["lines", "one", "other"], "split": ["point", "one", "other"],
    },
    "overfloors.many": {
        "gather": ["layers"], "bar_of": ["layers"], "bars": ["bar", "layers"], "fullest": ["layers"],
        "woven": ["one", "two", "three"],
    },
    "overfloors.toldback": {
        "sublattices": ["lattice", "number"], "superlattices": ["lattice", "number"],
        "partners": ["lattice", "common", "number"], "count_partners": ["lattice", "common", "number"],
        "complements": ["lattice", "common", "joint"],
    },
    "overfloors.motions": {
        "shifting": ["point"], "stretching": ["number"], "indices": ["lattice", "motion"],
    },
    "overfloors.turns": {
        "mirror": ["ground", "point"], "turn": ["ground", "point"], "direction": ["ground", "motion"],
        "turn_index": ["ground", "point"], "turns_of": ["ground", "index", "most"], "indices_to": ["ground", "most"],
    },
    "overfloors.sectors": {
        "least_turn": ["ground", "one", "other"],
    },
    "overfloors.bases": {
        "least_bases": ["ground", "lattice"], "shape_of": ["ground", "lattice"],
    },
    "overfloors.near": {
        "nearest": ["ground", "layer", "point"], "distance": ["ground", "layer", "point"],
        "within": ["ground", "layer", "point", "far", "most"], "differences": ["one", "other"],
        "gap": ["ground", "ones", "others"], "least_shifts": ["ground", "one", "other"],
    },
    "overfloors.holes": {
        "holes": ["ground", "lattice"], "clearance": ["ground", "one", "other"],
    },
    "overfloors.keys": {
        "least_key": ["ground", "tile", "mirrors", "stretch"],
        "alike": ["ground", "tile", "other_ground", "other", "mirrors", "stretch"],
        "pair_key": ["ground", "one", "other", "mirrors"],
        "alike_pairs": ["ground", "one", "other", "other_ground", "third", "fourth", "mirrors"],
    },
    "overfloors.own": {
        "own_motions": ["ground", "tile"], "centres": ["ground", "tile"], "common_motions": ["ground", "one", "other"],
    },
    "overfloors.covers": {
        "covers": ["layers", "layer"], "uncovered": ["layers", "layer"], "window_points": ["layer", "many"],
    },
    "overfloors.windows": {
        "count_in": ["places", "window"],
    },
    "overfloors.floors": {
        "meetings": ["one", "other"],
    },
    "overfloors.spots": {
        "spots": ["layer", "floor", "window"],
    },
    "overfloors.shifts": {
        "best_shifts": ["one", "other", "weights"],
    },
}
ARITHMETIC = ["__add__", "__sub__", "__mul__", "__rmul__", "__neg__", "__eq__"]
CLASSES = {
    "overfloors.ratios": {
        "Ratio": (["top", "bottom"], {
            "over": ["number"], "floor": [], "ceiling": [], "whole": [], "sign": [],
        }, ARITHMETIC + [
            "__radd__", "__rsub__", "__floordiv__", "__rfloordiv__", "__mod__", "__rmod__", "__pow__", "__abs__",
            "__bool__", "__str__", "__lt__", "__le__", "__gt__", "__ge__",
        ]),
    },
    "overfloors.points": {
        "Point": (["x", "y"], {}, ARITHMETIC + ["__bool__"]),
        "Form": (["x", "y"], {"__call__": ["point"]}, ARITHMETIC),
    },
    "overfloors.lattices": {
        "Lattice": (["points"], {
            "square": ["size"], "oblong": ["width", "height"], "rows": [], "rest": ["point"], "steps": ["point"],
            "order": ["point"], "tests": [], "dual": [], "index_of": ["other"], "moved": ["motion"],
        }, ["cell", "__contains__", "__eq__", "__le__", "__and__", "__add__", "__mul__", "__rmul__"]),
    },
    "overfloors.lines": {
        "Lines": (["u", "v", "r", "s"], {"lattices": [], "common": [], "joint": []}, []),
    },
    "overfloors.layers": {
        "Layer": (["point", "lattice"], {"shifted": ["point"], "moved": ["motion"]}, ARITHMETIC + [
            "thickness", "__contains__", "__le__", "__and__",
        ]),
    },
    "overfloors.many": {
        "Bar": (["numbers", "forms", "value"], {}, []),
    },
    "overfloors.stretches": {
        "Stretches": (["one", "other"], {
            "meets": ["number"], "meeting": ["number"], "room": ["number"], "first_win": [],
        }, []),
    },
    "overfloors.motions": {
        "Motion": (["table", "shift"], {
            "__call__": ["point"], "power": ["number"], "factor": [], "straight": [], "stretch": ["ground"],
            "kind": ["ground"], "kept": [], "order": [],
        }, ["__eq__", "__mul__", "__invert__"]),
    },
    "overfloors.turnings": {
        "Turning": (["ground", "points"], {"relations": [], "made": ["point"]}, ["is_free"]),
    },
    "overfloors.grounds": {
        "Ground": (["a", "b", "c"], {"measure": ["point"], "pair": ["one", "other"]}, ["__eq__"]),
    },
    "overfloors.bases": {
        "Base": (["ground", "u", "v"], {"is_least": [], "point_at": ["x", "y"], "figures": ["point"]}, ["__eq__"]),
    },
    "overfloors.tiles": {
        "Tile": (["lattice", "marks"], {
            "letters": [], "marks": ["letter"], "layers_of": ["letter"], "letter_at": ["point"], "moved": ["motion"],
        }, ["__eq__"]),
    },
    "overfloors.places": {
        "Places": (["layers"], {
            "inside": ["other"], "thick": [], "patterns": [], "witness": [], "shifted": ["point"], "moved": ["motion"],
        }, ["__or__", "__and__", "__sub__", "__xor__", "__contains__", "__eq__", "__bool__"]),
    },
    "overfloors.windows": {
        "Window": (["left", "right", "low", "high"], {}, ["__contains__", "__eq__"]),
    },
    "overfloors.corridors": {
        "Corridor": (["along", "across", "low", "high"], {
            "step_of": ["point"], "amount": ["places", "first", "last"], "next_from": ["places", "first"],
            "kth": ["places", "first", "number"], "share": ["places"], "gaps": ["layer"],
        }, ["__contains__"]),
    },
    "overfloors.floors": {
        "Floor": (["laid"], {
            "letters": [], "places": ["letter"], "letter_at": ["point"], "thick_of": ["letter"], "shifted": ["point"],
            "moved": ["motion"], "without": ["letter"], "renamed": ["names"],
        }, ["__eq__", "__or__", "__and__"]),
    },
    "overfloors.formulas": {
        "Formula": (["text"], {"names": [], "places": ["floors"]}, ["__eq__"]),
    },
    "overfloors.promises": {
        "Never": (["text"], {"is_kept": ["floors"]}, []),
        "Always": (["text", "wider"], {"is_kept": ["floors"]}, []),
        "Thick": (["text", "low", "high"], {"is_kept": ["floors"]}, []),
    },
    "overfloors.desk": {
        "Desk": ([], {
            "put": ["name", "floor"], "take": ["name"], "slide": ["name", "point"], "move_all": ["motion"],
            "keep": ["name", "promise"], "free": ["name"], "floors": [], "promises": [], "places": ["text"], "undo": [],
            "undoable": [], "attempt": ["action"], "explore": ["action"],
        }, ["__getitem__", "__contains__", "__len__"]),
    },
}
# The arguments that are passed by name only, with their defaults.
NAMED = {
    "turns_of": {"most": 500},
    "within": {"most": 200},
    "least_key": {"mirrors": True, "stretch": False},
    "alike": {"mirrors": True, "stretch": False},
    "pair_key": {"mirrors": True},
    "alike_pairs": {"mirrors": True},
}


def names_of(call):
    return list(inspect.signature(call).parameters)


class InterfaceTest(unittest.TestCase):

    def test_functions(self):
        for place, functions in FUNCTIONS.items():
            module = importlib.import_module(place)
            for name, names in functions.items():
                function = getattr(module, name)
                self.assertEqual(function.__module__, place)
                self.assertEqual(names_of(function), names, name)

    def test_classes(self):
        for place, classes in CLASSES.items():
            module = importlib.import_module(place)
            for name, (fields, methods, others) in classes.items():
                made = getattr(module, name)
                self.assertEqual(made.__module__, place)
                self.assertEqual(names_of(made), fields, name)
                for method, names in methods.items():
                    self.assertIn(method, vars(made))
                    found = names_of(getattr(made, method))
                    self.assertEqual([one for one in found if one != "self"], names, method)
                for method in others:
                    self.assertIn(method, vars(made))

    def test_class_methods_and_properties(self):
        lattices = importlib.import_module("overfloors.lattices")
        self.assertIsInstance(vars(lattices.Lattice)["square"], classmethod)
        self.assertIsInstance(vars(lattices.Lattice)["oblong"], classmethod)
        self.assertIsInstance(vars(lattices.Lattice)["cell"], property)
        layers = importlib.import_module("overfloors.layers")
        self.assertIsInstance(vars(layers.Layer)["thickness"], property)
        turnings = importlib.import_module("overfloors.turnings")
        self.assertIsInstance(vars(turnings.Turning)["is_free"], property)

    def test_by_name_only(self):
        for place, functions in FUNCTIONS.items():
            for name in functions:
                parameters = inspect.signature(getattr(importlib.import_module(place), name)).parameters.values()
                named = {one.name: one.default for one in parameters if one.kind == inspect.Parameter.KEYWORD_ONLY}
                others = [one for one in parameters if one.kind != inspect.Parameter.KEYWORD_ONLY]
                self.assertEqual(named, NAMED.get(name, {}), name)
                for one in others:
                    self.assertEqual((one.kind, one.default), (inspect.Parameter.POSITIONAL_OR_KEYWORD, inspect.Parameter.empty))

    def test_defaults(self):
        expected = {
            ("overfloors.ratios", "Ratio"): {"bottom": 1}, ("overfloors.motions", "Motion"): {"shift": None},
            ("overfloors.places", "Places"): {"layers": ()},
        }
        for place, classes in CLASSES.items():
            for name in classes:
                made = getattr(importlib.import_module(place), name)
                told = {one.name: one.default for one in inspect.signature(made).parameters.values()}
                told = {key: value for key, value in told.items() if value is not inspect.Parameter.empty}
                self.assertEqual(told, expected.get((place, name), {}), name)


if __name__ == "__main__":
    unittest.main()
