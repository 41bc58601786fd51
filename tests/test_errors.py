"""[2], [50]: the errors."""

import itertools
import unittest

from overfloors import errors
from overfloors.errors import BadNumber, Flat, FloorError, NoSuch
from overfloors.points import Point
from overfloors.ratios import Ratio
from drawn import Other, nested

FIELDS = {
    "BadNumber": ("value",),
    "BadPoint": ("value",),
    "Flat": (),
    "TooMany": ("most",),
    "TooFar": ("number",),
    "NoSuch": ("number",),
    "NotWithin": (),
    "Apart": ("bar",),
    "NotPositive": ("a", "b", "c"),
    "NotPlain": (),
    "NoMarks": (),
    "NoLetter": ("letter",),
    "Clash": ("letter", "other"),
    "BadLetter": ("value",),
    "Overlap": ("first", "second"),
    "NoWidth": (),
    "BadText": ("index",),
    "NoFloor": ("name",),
    "BadName": ("value",),
    "Taken": ("name",),
    "NoPromise": ("name",),
    "Barred": ("words",),
    "NothingToUndo": (),
}


def values():
    return [
        None, True, 0, -7, 10 ** 120, "", "word", (1, 2), [3], {"a": [1]}, nested(20), Other(),
        Ratio(1, 2), Point(1, 2), BadNumber(3), BadNumber,
    ]


class ErrorsTest(unittest.TestCase):

    def check(self, error, names, given):
        self.assertEqual(len(names), len(given))
        for name, value in zip(names, given):
            self.assertIs(getattr(error, name), value)

    def test_list_is_whole(self):
        own = [
            name for name, value in vars(errors).items()
            if isinstance(value, type) and value.__module__ == "overfloors.errors"
        ]
        self.assertEqual(sorted(own), sorted([*FIELDS, "FloorError"]))

    def test_bases(self):
        self.assertEqual(FloorError.__bases__, (ValueError,))
        for name in FIELDS:
            self.assertEqual(getattr(errors, name).__bases__, (FloorError,), name)

    def test_by_position(self):
        for name, names in FIELDS.items():
            for given in itertools.product(values(), repeat=min(len(names), 2)):
                given = given + (5,) * (len(names) - len(given))
                self.check(getattr(errors, name)(*given), names, given)

    def test_by_name(self):
        for name, names in FIELDS.items():
            for value in values():
                given = tuple([value, "other", (3,)][:len(names)])
                told = dict(reversed(list(zip(names, given))))
                self.check(getattr(errors, name)(**told), names, given)

    def test_by_both(self):
        for name, names in FIELDS.items():
            for cut in range(1, len(names)):
                given = tuple([{"a": 1}, None, Ratio(1, 3)][:len(names)])
                told = dict(zip(names[cut:], given[cut:]))
                self.check(getattr(errors, name)(*given[:cut], **told), names, given)

    def test_attributes_are_the_very_values(self):
        words = ["b", "a"]
        error = errors.Barred(words)
        words.append("c")
        self.assertIs(error.words, words)

    def test_fields_are_asked_for(self):
        for name, names in FIELDS.items():
            if names:
                with self.assertRaises(TypeError):
                    getattr(errors, name)()

    def test_caught_as_floor_error_and_value_error(self):
        for name, names in FIELDS.items():
            given = ["x", 2, None][:len(names)]
            for caught in (getattr(errors, name), FloorError, ValueError):
                try:
                    raise getattr(errors, name)(*given)
                except caught as error:
                    self.check(error, names, given)
                try:
                    raise getattr(errors, name)(**dict(zip(names, given)))
                except caught as error:
                    self.check(error, names, given)

    def test_not_caught_as_one_another(self):
        for name, other in itertools.permutations(FIELDS, 2):
            self.assertFalse(issubclass(getattr(errors, name), getattr(errors, other)))

    def test_raised_by_calls(self):
        for caught in (BadNumber, FloorError, ValueError):
            with self.assertRaises(caught) as held:
                Ratio(1, "2")
            self.assertIs(type(held.exception), BadNumber)
        with self.assertRaises(FloorError) as held:
            from overfloors.ratios import least
            least([])
        self.assertIs(type(held.exception), NoSuch)
        self.assertEqual(held.exception.number, 0)
        with self.assertRaises(ValueError) as held:
            from overfloors.lattices import Lattice
            Lattice([])
        self.assertIs(type(held.exception), Flat)


if __name__ == "__main__":
    unittest.main()
