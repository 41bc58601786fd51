"""[46], [76]: the shifts that bring the most marks together."""

import unittest
from fractions import Fraction

from overfloors.errors import TooMany
from overfloors.floors import Floor, meetings
from overfloors.lattices import Lattice
from overfloors.layers import Layer
from overfloors.motions import Motion
from overfloors.places import Places
from overfloors.points import Point
from overfloors.ratios import Ratio
from overfloors.shifts import best_shifts
from drawn import HUNDRED, Draw, columns, fraction, places
from test_floors import BOARD, ROWS, drawn_floor

SIZE = 12


def worth_at(one, other, weights, x, y):
    """The worth of a whole shift, by a walk over what both floors lay in the square of SIZE."""
    total = 0
    for (left, low), letter in one.items():
        another = other.get(((left - x) % SIZE, (low - y) % SIZE))
        if another is not None:
            total += weights.get((letter, another), 0)
    return Fraction(total, SIZE * SIZE)


def shift_layers(one, other, weights):
    """The different sets of whole shifts at which two layers with a weight meet."""
    found = set()
    for letter, layer in one.laid:
        for another, beside in other.laid:
            if weights.get((letter, another), 0):
                ours, others = places(layer, SIZE), places(beside, SIZE)
                found.add(frozenset(((x - z) % SIZE, (y - w) % SIZE) for x, y in ours for z, w in others))
    return found


class ShiftsTest(unittest.TestCase):

    def test_example(self):
        worth, shifts = best_shifts(BOARD, ROWS, {("a", "b"): 2, ("b", "b"): -1})
        self.assertEqual(worth, Ratio(1, 6))
        self.assertIn(Point(0, 0), shifts)
        self.assertIn(Point(0, 3), shifts)
        self.assertNotIn(Point(0, Ratio(1, 2)), shifts)

    def test_walk(self):
        draw = Draw(130)
        kinds = {"none": 0, "some": 0, "many": 0}
        for round_ in range(150):
            least, indexes = (4, (12,)) if round_ % 4 == 0 else (1, (2, 3, 4, 6))
            one, cells = drawn_floor(draw, draw.random.randint(least, 5), "ab", indexes)
            other, others = drawn_floor(draw, draw.random.randint(least, 5), "abc", indexes)
            weights = {(a, b): draw.integer(3) for a in "abx" for b in "abc" if draw.random.random() < 0.6}
            if len(shift_layers(one, other, weights)) > 6:
                with self.assertRaises(TooMany) as caught:
                    best_shifts(one, other, weights)
                self.assertEqual(caught.exception.most, 6)
                kinds["many"] += 1
                continue
            kept = dict(weights)
            worth, shifts = best_shifts(weights=weights, other=other, one=one)
            self.assertEqual(weights, kept)
            self.assertIsInstance(worth, Ratio)
            worths = {(x, y): worth_at(cells, others, weights, x, y) for x in range(SIZE) for y in range(SIZE)}
            # Between the whole shifts no marks come together.
            self.assertEqual(fraction(worth), max(0, max(worths.values())))
            if worth == 0:
                self.assertIsNone(shifts)
                kinds["none"] += 1
                continue
            self.assertIsInstance(shifts, Places)
            for x, y in worths:
                self.assertIs(Point(x, y) in shifts, worths[x, y] == fraction(worth))
            self.assertNotIn(Point(Ratio(1, 2), 0), shifts)
            self.assertEqual(fraction(shifts.thick()) * SIZE * SIZE, list(worths.values()).count(fraction(worth)))
            kinds["some"] += 1
        self.assertTrue(all(count > 5 for count in kinds.values()), kinds)

    def test_parts(self):
        """Shifts between whole ones count, where marks lie there."""
        half = Floor([("a", columns(1).moved(Motion([[Ratio(1, 2), 0], [0, Ratio(1, 3)]])))])
        worth, shifts = best_shifts(half, Floor([("b", columns(1))]), {("a", "b"): 1})
        self.assertEqual(worth, 1)
        for point, expected in [(Point(Ratio(1, 2), Ratio(2, 3)), True), (Point(Ratio(1, 4), 0), False), (Point(0, Ratio(1, 6)), False)]:
            self.assertIs(point in shifts, expected)

    def test_none(self):
        for weights in ({}, {("a", "b"): 0}, {("a", "b"): -1, ("b", "b"): -3}, {("x", "b"): 5, ("b", "a"): 7}):
            worth, shifts = best_shifts(BOARD, ROWS, weights)
            self.assertIsInstance(worth, Ratio)
            self.assertEqual((worth, shifts), (0, None))
        self.assertEqual(best_shifts(Floor([]), ROWS, {("a", "b"): 1}), (0, None))
        self.assertEqual(best_shifts(BOARD, Floor([]), {("a", "b"): 1}), (0, None))
        # What is won at each whole shift is lost at each of them, too.
        twins = Floor([("a", columns(2)), ("b", columns(2, 1))])
        self.assertEqual(best_shifts(twins, Floor([("c", columns(1))]), {("a", "c"): 2, ("b", "c"): -2}), (0, None))

    def test_too_many(self):
        one = Floor([("a", columns(7, first)) for first in range(3)])
        other = Floor([("b", columns(7, 0)), ("c", columns(7, 3)), ("d", columns(7, 6)), ("e", columns(7, 5))])
        # Differences 0, 1, 2; with c also 4, 5, 6; with d 1, 2, 3.
        worth, _ = best_shifts(one, other, {("a", "b"): 1, ("a", "c"): 1})
        self.assertEqual(worth, Ratio(1, 7))
        worth, _ = best_shifts(one, other, {("a", "b"): 1, ("a", "c"): 1, ("a", "e"): 0, ("x", "d"): 4, ("a", "x"): 1})
        self.assertEqual(worth, Ratio(1, 7))
        for weights in ({("a", "b"): 1, ("a", "c"): 1, ("a", "d"): -1}, {("a", letter): 1 for letter in "bcde"}):
            with self.assertRaises(TooMany) as caught:
                best_shifts(one, other, weights)
            self.assertEqual(caught.exception.most, 6)
        # Many pairs, few layers of shifts.
        six = Floor([("a", columns(6, first)) for first in range(6)])
        worth, shifts = best_shifts(six, six, {("a", "a"): 1})
        self.assertEqual(worth, 1)
        self.assertTrue(shifts == Places([columns(1)]))

    def test_hidden_shift(self):
        """Floors of some thirty figures that agree at one shift best."""
        draw = Draw(131)
        for _ in range(10):
            u, v = draw.base(10 ** 30)
            lattice = Lattice([u, v])
            points = [u * draw.ratio(10 ** 30) + v * draw.ratio(10 ** 30) for _ in range(2)]
            one = Floor([("a", Layer(points[0], lattice)), ("b", Layer(points[1], lattice))])
            hidden = draw.point(10 ** 30)
            thin = Lattice([u * 3, v])
            other = Floor([("c", Layer(points[0] - hidden, lattice)), ("d", Layer(points[1] - hidden, thin))])
            worth, shifts = best_shifts(one, other, {("a", "c"): 3, ("b", "d"): 1, ("b", "c"): -1})
            thick = one.thick_of("a")
            self.assertEqual(worth, thick * 3 + thick * Ratio(1, 3))
            self.assertTrue(shifts == Places([Layer(hidden, lattice)]))
            both = meetings(one, other.shifted(hidden))
            self.assertEqual(both, {("a", "c"): thick, ("b", "d"): thick * Ratio(1, 3)})
            away = Point(Ratio(1, 3), HUNDRED)
            again, moved = best_shifts(one.shifted(away), other, {("a", "c"): 3, ("b", "d"): 1})
            self.assertEqual(again, worth)
            self.assertTrue(moved == shifts.shifted(away))


if __name__ == "__main__":
    unittest.main()
