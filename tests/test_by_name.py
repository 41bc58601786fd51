"""[2]: arguments by name in another order than told, what is handed in and what is told may be changed afterwards."""

import importlib
import unittest

from overfloors import errors
from overfloors.bases import Base
from overfloors.corridors import Corridor
from overfloors.covers import uncovered, window_points
from overfloors.desk import Desk
from overfloors.floors import Floor, meetings
from overfloors.formulas import Formula
from overfloors.grounds import Ground
from overfloors.lattices import Lattice
from overfloors.layers import Layer
from overfloors.lines import Lines
from overfloors.many import Bar, bar_of, fullest
from overfloors.motions import Motion
from overfloors.places import Places
from overfloors.points import Form, Point
from overfloors.promises import Always, Never, Thick
from overfloors.ratios import Ratio
from overfloors.shifts import best_shifts
from overfloors.spots import spots
from overfloors.stretches import Stretches
from overfloors.tiles import Tile
from overfloors.turnings import Turning
from overfloors.windows import Window
from drawn import columns
from test_interface import CLASSES, FUNCTIONS

S, Z = Ground(1, 0, 1), Lattice.square(1)
EVEN, THIRD = columns(2), columns(3, 1)
BOARD, ROWS = Floor([("a", EVEN), ("b", columns(2, 1))]), Floor([("b", THIRD)])
TILE, OTHER = Tile(Lattice.oblong(2, 1), {"a": [Point(0, 0)]}), Tile(Lattice.oblong(1, 2), {"a": [Point(0, 0)]})
TURN = Motion([[0, -1], [1, 0]], Point(1, 0))
BAR = bar_of([EVEN, columns(2, 1)])
SETS = Places([EVEN]), Places([THIRD])
FLAT = Corridor(Point(1, 0), Point(0, 1), 0, 1)
# For each argument of a function a value that serves it.
ARGUMENTS = {
    "ratio_of": [5], "gcd_of": [12, 18], "lcm_of": [4, 6], "bezout": [12, 18], "ascending": [[2, 1]], "least": [[2, 1]],
    "greatest": [[2, 1]], "cross": [Point(2, 1), Point(1, 3)], "value_at": [Form(1, 2), Point(3, 4)],
    "ascending_points": [[Point(2, 1), Point(1, 3)]], "lines_of": [Z, Lattice.oblong(2, 3)],
    "fits": [Lines(Point(1, 0), Point(0, 1), 1, 2), Z, Lattice.oblong(1, 2)], "split": [Point(1, 0), Lattice.square(2), Lattice.square(3)],
    "gather": [[EVEN, THIRD]], "bar_of": [[EVEN, columns(2, 1)]], "bars": [BAR, [EVEN, columns(2, 1)]], "fullest": [[EVEN, THIRD]],
    "woven": [Z, Lattice.square(2), Lattice.oblong(3, 1)], "sublattices": [Z, 2], "superlattices": [Z, 3],
    "partners": [Z, Lattice.oblong(2, 1), 2], "count_partners": [Z, Lattice.oblong(2, 1), 6],
    "complements": [Lattice.oblong(2, 1), Lattice.square(2), Z], "shifting": [Point(1, 2)], "stretching": [3],
    "indices": [Z, TURN], "mirror": [S, Point(2, 1)], "turn": [S, Point(2, 1)], "direction": [S, TURN], "turn_index": [S, Point(2, 1)],
    "turns_of": [S, 5, 8], "indices_to": [S, 30], "least_turn": [S, Point(1, 0), Point(1, 1)], "least_bases": [S, Z],
    "shape_of": [S, Z], "nearest": [S, EVEN, Point(1, 0)], "distance": [S, EVEN, Point(1, 0)], "within": [S, EVEN, Point(1, 0), 4, 9],
    "differences": [EVEN, THIRD], "gap": [S, [EVEN], [THIRD]], "holes": [S, Lattice.oblong(2, 1)], "clearance": [S, EVEN, THIRD],
    "least_shifts": [S, EVEN, columns(2, 1)], "least_key": [S, TILE, False, True], "alike": [S, TILE, S, OTHER, False, True],
    "pair_key": [S, TILE, OTHER, False], "alike_pairs": [S, TILE, OTHER, S, OTHER, TILE, True], "own_motions": [S, TILE],
    "centres": [S, TILE], "common_motions": [S, TILE, OTHER], "covers": [[EVEN, columns(2, 1)], THIRD], "uncovered": [[EVEN], THIRD],
    "window_points": [THIRD, 2], "count_in": [SETS[0], Window(0, 6, 0, 2)], "meetings": [BOARD, ROWS],
    "spots": [EVEN, ROWS, Window(0, 1, 0, 1)], "best_shifts": [BOARD, ROWS, {("a", "b"): 2}],
}
# For each class the arguments of an object, and for its methods those of a call.
OBJECTS = {
    "Ratio": ([3, 2], {"over": [5]}), "Point": ([1, 2], {}), "Form": ([1, 2], {"__call__": [Point(3, 4)]}),
    "Lattice": ([[Point(2, 1), Point(0, 3)]], {
        "square": [3], "oblong": [2, 3], "rest": [Point(5, 1)], "steps": [Point(1, 1)], "order": [Point(1, 0)],
        "index_of": [Lattice.square(6)], "moved": [TURN],
    }),
    "Lines": ([Point(1, 0), Point(0, 1), 1, 2], {}), "Layer": ([Point(1, 0), Z], {"shifted": [Point(1, 2)], "moved": [TURN]}),
    "Bar": ([[0, 1], [Form(1, 0), Form(-1, 0)], Ratio(1, 2)], {}),
    "Stretches": ([columns(2, 1), columns(4, 1)], {"meets": [3], "meeting": [3], "room": [3]}),
    "Motion": ([[[0, -1], [1, 0]], Point(1, 0)], {"__call__": [Point(2, 0)], "power": [3], "stretch": [S], "kind": [S]}),
    "Turning": ([S, [Point(2, 1)]], {"made": [Point(4, 3)]}),
    "Ground": ([2, 1, 3], {"measure": [Point(1, 2)], "pair": [Point(1, 2), Point(3, 4)]}),
    "Base": ([S, Point(1, 0), Point(1, 1)], {"point_at": [2, 3], "figures": [Point(2, 3)]}),
    "Tile": ([Z, {"a": [Point(0, 0)]}], {"marks": ["a"], "layers_of": ["a"], "letter_at": [Point(1, 1)], "moved": [TURN]}),
    "Places": ([[EVEN, THIRD]], {"inside": [SETS[0]], "shifted": [Point(1, 2)], "moved": [TURN]}),
    "Window": ([0, 1, 2, 3], {}),
    "Corridor": ([Point(1, 0), Point(0, 1), 0, 2], {
        "step_of": [Point(3, 1)], "amount": [SETS[0], 0, 9], "next_from": [SETS[1], 2], "kth": [SETS[0], 1, 5],
        "share": [SETS[0]], "gaps": [THIRD],
    }),
    "Floor": ([[("a", EVEN), ("b", columns(2, 1))]], {
        "places": ["a"], "letter_at": [Point(0, 0)], "thick_of": ["b"], "shifted": [Point(1, 0)], "moved": [TURN],
        "without": ["a"], "renamed": [{"a": "c"}],
    }),
    "Formula": (["board - rows"], {"places": [{"board": BOARD, "rows": ROWS}]}),
    "Never": (["rows - rows"], {"is_kept": [{"rows": ROWS}]}), "Always": (["rows", "board"], {"is_kept": [{"board": BOARD, "rows": ROWS}]}),
    "Thick": (["rows", 0, 1], {"is_kept": [{"rows": ROWS}]}),
    "Desk": ([], {
        "put": ["x", BOARD], "take": ["board"], "slide": ["rows", Point(1, 0)], "move_all": [TURN], "keep": ["y", Never("rows - rows")],
        "free": ["some"], "places": ["board | rows"], "attempt": [lambda desk: desk.floors()], "explore": [lambda desk: desk.floors()],
    }),
}
FIELDS = {
    "BadNumber": ["value"], "BadPoint": ["value"], "Flat": [], "TooMany": ["most"], "TooFar": ["number"], "NoSuch": ["number"],
    "NotWithin": [], "Apart": ["bar"], "NotPositive": ["a", "b", "c"], "NotPlain": [], "NoMarks": [], "NoLetter": ["letter"],
    "Clash": ["letter", "other"], "BadLetter": ["value"], "Overlap": ["first", "second"], "NoWidth": [], "BadText": ["index"],
    "NoFloor": ["name"], "BadName": ["value"], "Taken": ["name"], "NoPromise": ["name"], "Barred": ["words"], "NothingToUndo": [],
}


def plain(value):
    """What a value tells, without objects of the package."""
    if isinstance(value, (list, tuple)):
        return type(value)(plain(one) for one in value)
    if isinstance(value, dict):
        return {key: plain(one) for key, one in value.items()}
    if isinstance(value, Ratio):
        return value.top, value.bottom
    if isinstance(value, Desk):
        return [(name, plain(value[name])) for name in value.floors()], value.promises(), value.undoable()
    if hasattr(value, "__dict__"):
        return type(value).__name__, {key: plain(one) for key, one in vars(value).items() if not key.startswith("_")}
    return value


def backwards(names, values):
    """A dict of arguments by name, the last one first."""
    return dict(reversed(list(zip(names, values))))


def made(name, module, arguments):
    """An object of a class; desks have some floors and a promise."""
    found = getattr(importlib.import_module(module), name)(*arguments)
    if name == "Desk":
        found.put("board", BOARD)
        found.put("rows", ROWS)
        found.keep("some", Never("rows - rows"))
    return found


class ByNameTest(unittest.TestCase):

    def test_functions(self):
        named_only = {"turns_of": 1, "within": 1, "least_key": 2, "alike": 2, "pair_key": 1, "alike_pairs": 1}
        for module, functions in FUNCTIONS.items():
            for name, names in functions.items():
                values = ARGUMENTS[name]
                self.assertEqual(len(values), len(names), name)
                call = getattr(importlib.import_module(module), name)
                first = len(values) - named_only.get(name, 0)
                told = call(*values[:first], **backwards(names[first:], values[first:]))
                self.assertEqual(plain(call(**backwards(names, values))), plain(told), name)
                # Tuples where lists are expected, and the same answer once more.
                again = [tuple(value) if isinstance(value, list) else value for value in values]
                self.assertEqual(plain(call(**backwards(names, again))), plain(told), name)

    def test_objects_and_methods(self):
        for module, classes in CLASSES.items():
            for name, (names, methods, _) in classes.items():
                values, calls = OBJECTS[name]
                kind = getattr(importlib.import_module(module), name)
                self.assertEqual(plain(kind(**backwards(names, values))), plain(kind(*values)), name)
                self.assertEqual(set(calls), {method for method, told in methods.items() if told}, name)
                for method, told in methods.items():
                    one, other = made(name, module, values), made(name, module, values)
                    passed = calls.get(method, [])
                    by_place = getattr(one, method)(*passed)
                    by_name = getattr(other, method)(**backwards(told, passed))
                    self.assertEqual(plain(by_name), plain(by_place), method)
                    self.assertEqual(plain(other), plain(one), method)

    def test_errors(self):
        self.assertTrue(issubclass(errors.FloorError, ValueError))
        for name, fields in FIELDS.items():
            kind = getattr(errors, name)
            self.assertEqual(kind.__bases__, (errors.FloorError,))
            values = [object() for _ in fields]
            for error in (kind(*values), kind(**backwards(fields, values))):
                for field, value in zip(fields, values):
                    self.assertIs(getattr(error, field), value)
            if fields:
                for arguments in (values[1:], values + [1]):
                    with self.assertRaises(TypeError):
                        kind(*arguments)


class ChangedAfterwardsTest(unittest.TestCase):
    """Lists and dicts that are handed in, or told, and then changed."""

    def test_handed_in(self):
        points, numbers, forms = [Point(2, 1), Point(0, 3)], [0, 1], [Form(1, 0), Form(-1, 0)]
        lattice, bar = Lattice(points), Bar(numbers, forms, Ratio(1, 2))
        rows = [[0, -1], [1, 0]]
        motion, turning = Motion(rows), Turning(S, points[:1])
        marks = {"a": [Point(0, 0)]}
        tile = Tile(Z, marks)
        layers, laid = [EVEN], [["a", EVEN]]
        places, floor = Places(layers), Floor(laid)
        before = plain([lattice, bar, motion, turning, tile, places, floor, tile.letters(), tile.marks("a")])
        for told in (points, numbers, forms, layers, laid[0], marks["a"], rows[0]):
            told.clear()
        marks["b"] = [Point(1, 1)]
        laid.append(["b", THIRD])
        after = plain([lattice, bar, motion, turning, tile, places, floor, tile.letters(), tile.marks("a")])
        self.assertEqual(after, before)

    def test_told(self):
        tile, floor = TILE, BOARD
        desk = made("Desk", "overfloors.desk", [])
        calls = [
            lambda: tile.letters(), lambda: tile.marks("a"), lambda: tile.layers_of("a"), lambda: SETS[0].patterns(),
            lambda: FLAT.gaps(THIRD), lambda: window_points(EVEN, 1), lambda: meetings(BOARD, ROWS),
            lambda: spots(EVEN, ROWS, Window(0, 1, 0, 1)), lambda: fullest([EVEN, THIRD])[0],
        ]
        for call in calls:
            told = call()
            before = plain(told)
            told.clear()
            self.assertEqual(plain(call()), before)
        for told in (floor.letters(), floor.laid, SETS[0].layers, desk.floors(), desk.promises(), Formula("a | b").names()):
            self.assertIsInstance(told, tuple)

    def test_not_changed(self):
        """Functions leave what they are passed as it is."""
        layers, weights, names = [EVEN, columns(2, 1)], {("a", "b"): 2, ("x", "b"): 0}, {"a": "c", "q": 5}
        floors = {"rows": ROWS, "board": BOARD}
        before = plain([layers, weights, names, floors])
        uncovered(layers, THIRD)
        best_shifts(BOARD, ROWS, weights)
        BOARD.renamed(names)
        Formula("rows - board").places(floors)
        for promise in (Never("rows"), Always("rows", "board"), Thick("rows", 0, 1)):
            promise.is_kept(floors)
        self.assertEqual(plain([layers, weights, names, floors]), before)

    def test_no_letter_of_a_dict(self):
        """The order of the keys of a dict has no meaning."""
        self.assertEqual(plain(BOARD.renamed({"a": "x", "b": "y"})), plain(BOARD.renamed({"b": "y", "a": "x"})))
        first = Tile(Z, {"a": [Point(0, 0)], "b": [Point(Ratio(1, 2), 0)]})
        second = Tile(Z, {"b": [Point(Ratio(1, 2), 0)], "a": [Point(0, 0)]})
        self.assertEqual(first.letters(), second.letters())
        self.assertTrue(first == second)
        self.assertEqual(plain(Base(S, Point(1, 0), Point(0, 1))), plain(Base(v=Point(0, 1), u=Point(1, 0), ground=S)))
        stretches = Stretches(columns(2), columns(4))
        stretches.wins.clear()
        self.assertTrue(stretches.meets(1))
        self.assertEqual(plain(Layer(Point(5, 5), Z)), plain(Layer(Point(0, 0), Z)))
        self.assertEqual(plain(Lines(Point(1, 0), Point(0, 1), 1, 2))[0], "Lines")


if __name__ == "__main__":
    unittest.main()
