"""[2], [50] to [54]: what stands where, under which names and with which arguments."""

import importlib
import inspect
import unittest

FUNCTIONS = {
    "overfloors.ratios": {
        "ratio_of": ["number"], "gcd_of": ["first", "second"], "lcm_of": ["first", "second"],
        "bezout": ["first", "second"], "ascending": ["numbers"], "least": ["numbers"], "greatest": ["numbers"],
    },
    "overfloors.points": {
        "cross": ["one", "other"], "value_at": ["form", "point"], "ascending_points": ["points"],
    },
    "overfloors.lines": {
        "lines_of": ["one", "other"], "fits": ["lines", "one", "other"], "split": ["point", "one", "other"],
    },
}
ARITHMETIC = ["__add__", "__sub__", "__mul__", "__rmul__", "__neg__", "__eq__"]
CLASSES = {
    "overfloors.ratios": {
        "Ratio": (["top", "bottom"], {
            "over": ["number"], "floor": [], "ceiling": [], "whole": [], "sign": [],
        }, ARITHMETIC + [
            "__radd__", "__rsub__", "__floordiv__", "__rfloordiv__", "__mod__", "__rmod__", "__pow__", "__abs__",
            "__bool__", "__str__", "__lt__", "__le__", "__gt__", "__ge__",
        ]),
    },
    "overfloors.points": {
        "Point": (["x", "y"], {}, ARITHMETIC + ["__bool__"]),
        "Form": (["x", "y"], {"__call__": ["point"]}, ARITHMETIC),
    },
    "overfloors.lattices": {
        "Lattice": (["points"], {
            "square": ["size"], "oblong": ["width", "height"], "rows": [], "rest": ["point"], "steps": ["point"],
            "order": ["point"], "tests": [], "dual": [], "index_of": ["other"], "moved": ["motion"],
        }, ["cell", "__contains__", "__eq__", "__le__", "__and__", "__add__", "__mul__", "__rmul__"]),
    },
    "overfloors.lines": {
        "Lines": (["u", "v", "r", "s"], {"lattices": [], "common": [], "joint": []}, []),
    },
}


def names_of(call):
    return list(inspect.signature(call).parameters)


class InterfaceTest(unittest.TestCase):

    def test_functions(self):
        for place, functions in FUNCTIONS.items():
            module = importlib.import_module(place)
            for name, names in functions.items():
                function = getattr(module, name)
                self.assertEqual(function.__module__, place)
                self.assertEqual(names_of(function), names, name)

    def test_classes(self):
        for place, classes in CLASSES.items():
            module = importlib.import_module(place)
            for name, (fields, methods, others) in classes.items():
                made = getattr(module, name)
                self.assertEqual(made.__module__, place)
                self.assertEqual(names_of(made), fields, name)
                for method, names in methods.items():
                    self.assertIn(method, vars(made))
                    found = names_of(getattr(made, method))
                    self.assertEqual([one for one in found if one != "self"], names, method)
                for method in others:
                    self.assertIn(method, vars(made))

    def test_class_methods_and_properties(self):
        lattices = importlib.import_module("overfloors.lattices")
        self.assertIsInstance(vars(lattices.Lattice)["square"], classmethod)
        self.assertIsInstance(vars(lattices.Lattice)["oblong"], classmethod)
        self.assertIsInstance(vars(lattices.Lattice)["cell"], property)

    def test_default_bottom(self):
        ratios = importlib.import_module("overfloors.ratios")
        self.assertEqual(inspect.signature(ratios.Ratio).parameters["bottom"].default, 1)


if __name__ == "__main__":
    unittest.main()
