"""[2], [35], [66]: holes of lattices and the clearance of layers."""

import itertools
import math
import time
import unittest
from fractions import Fraction

from overfloors.bases import shape_of
from overfloors.grounds import Ground
from overfloors.holes import clearance, holes
from overfloors.lattices import Lattice
from overfloors.layers import Layer
from overfloors.near import distance
from overfloors.points import Point
from overfloors.ratios import Ratio
from drawn import Draw, HUNDRED, fraction, pair
from search import box, closest, measure_of, point_of, reach

S, T = Ground(1, 0, 1), Ground(1, 1, 1)
GROUNDS = [S, T, Ground(1, -1, 1), Ground(1, 0, 3), Ground(2, 1, 2), Ground(2, 2, 3), Ground(3, -5, 7)]
Z = Lattice.square(1)
HALF, THIRD = Ratio(1, 2), Ratio(1, 3)
ORIGIN = Point(0, 0)


def net(lattice, bottom):
    """The points of the oblong of a lattice whose coordinates have so many parts in each cell."""
    a, d = fraction(lattice.a), fraction(lattice.d)
    return [(a * m / bottom, d * n / bottom) for m, n in itertools.product(range(bottom), repeat=2)]


def parts_of(layers, lattice):
    """The bottom of a net that has the points of the layers."""
    numbers = [fraction(layer.point.x) / fraction(lattice.a) for layer in layers]
    numbers = numbers + [fraction(layer.point.y) / fraction(lattice.d) for layer in layers]
    return math.lcm(*[number.denominator for number in numbers])


class Base(unittest.TestCase):

    def assertLayers(self, answer):
        """The kinds of values, and the order of the layers."""
        self.assertIs(type(answer), tuple)
        measure, layers = answer
        self.assertIs(type(measure), Ratio)
        self.assertIs(type(layers), list)
        self.assertEqual([type(layer) for layer in layers], [Layer] * len(layers))
        points = [pair(layer.point) for layer in layers]
        self.assertEqual(points, sorted(set(points)))
        return measure, layers, points


class HolesTest(Base):

    def test_example(self):
        self.assertEqual(holes(T, Z), (THIRD, [Layer(Point(THIRD, THIRD), Z), Layer(Point(2 * THIRD, 2 * THIRD), Z)]))

    def test_squares_and_oblongs(self):
        self.assertEqual(holes(S, Z), (HALF, [Layer(Point(HALF, HALF), Z)]))
        lattice = Lattice.oblong(2, 3)
        self.assertEqual(holes(lattice=lattice, ground=S), (Ratio(13, 4), [Layer(Point(1, Ratio(3, 2)), lattice)]))
        lattice = Lattice([Point(1, 1), Point(0, 2)])
        self.assertEqual(holes(S, lattice), (1, [Layer(Point(0, 1), lattice)]))

    def test_formula(self):
        draw = Draw(1)
        for ground in GROUNDS:
            for lattice in (Z, draw.lattice(5), draw.lattice(HUNDRED), Lattice.oblong(3, 2)):
                measure, layers, _ = self.assertLayers(holes(ground, lattice))
                p, q, r = shape_of(ground, lattice)
                self.assertEqual(measure * (4 * p * r - q * q), p * r * (p + r - q))
                self.assertEqual(len(layers), 1 if q == 0 else 2)
                for layer in layers:
                    self.assertEqual(layer.lattice, lattice)
                    self.assertEqual(distance(ground, Layer(ORIGIN, lattice), layer.point), measure)

    def test_search_over_a_net(self):
        """No point of a net is farther than the holes, and those that are as far are the holes."""
        draw = Draw(2)
        counts = set()
        for ground in GROUNDS:
            for lattice in (Z, draw.narrow_lattice(2), draw.narrow_lattice(3), draw.narrow_lattice(4) * HALF):
                measure, layers, points = self.assertLayers(holes(ground, lattice))
                bottom = parts_of(layers, lattice)
                bottom = bottom * max(1, 12 // bottom)
                if bottom > 30:
                    continue
                far = {place: closest(ground, Layer(ORIGIN, lattice), point_of(*place))[0] for place in net(lattice, bottom)}
                self.assertEqual(max(far.values()), fraction(measure))
                self.assertEqual(sorted(place for place in far if far[place] == max(far.values())), points)
                counts.add(len(layers))
        self.assertEqual(counts, {1, 2})

    def test_soon(self):
        draw = Draw(3)
        begun = time.monotonic()
        for _ in range(5):
            holes(Ground(10 ** 30 - 1, 1, 10 ** 30 - 1), draw.lattice(10 ** 300 - 1))
        self.assertLess(time.monotonic() - begun, 20)


class ClearanceTest(Base):

    def searched(self, ground, one, other, shift):
        """The least measure between places of the one layer, moved by a shift, and places of the other."""
        common = one.lattice & other.lattice
        found = []
        x, y = pair(shift)
        a, d = fraction(common.a), fraction(common.d)
        far = fraction(max(ground.measure(row) for row in other.lattice.rows())) * 4
        width = reach(4 * ground.c * far / (4 * ground.a * ground.c - ground.b * ground.b))
        height = reach(4 * ground.a * far / (4 * ground.a * ground.c - ground.b * ground.b))
        # Places that differ by members of both lattices see the same.
        for px, py in box(one, Fraction(0), a, Fraction(0), d):
            for qx, qy in box(other, px + x - width, px + x + width, py + y - height, py + y + height):
                found.append(measure_of(ground, qx - px - x, qy - py - y))
        return min(found)

    def test_example(self):
        answer = clearance(S, Layer(ORIGIN, Z), Layer(Point(HALF, 0), Z))
        self.assertEqual(answer, (HALF, [Layer(Point(0, HALF), Z)]))

    def check(self, ground, one, other):
        measure, layers, points = self.assertLayers(clearance(ground, one, other))
        joint = one.lattice + other.lattice
        for layer in layers:
            self.assertEqual(layer.lattice, joint)
        bottom = parts_of(layers, joint)
        bottom = bottom * max(1, 6 // bottom)
        if bottom > 18:
            return 0
        far = {place: self.searched(ground, one, other, point_of(*place)) for place in net(joint, bottom)}
        self.assertEqual(max(far.values()), fraction(measure))
        self.assertEqual(sorted(place for place in far if far[place] == max(far.values())), points)
        return len(layers)

    def test_one_in_the_other(self):
        counts = set()
        for ground in GROUNDS:
            wide = Layer(Point(1, HALF), Lattice.oblong(2, 1))
            for other in (Layer(ORIGIN, Z), wide, Layer(Point(HALF, 0), Lattice.oblong(1, HALF))):
                counts.add(self.check(ground, wide, other))
                counts.add(self.check(ground, other, wide))
        self.assertTrue({1, 2} <= counts)

    def test_across(self):
        counts = set()
        for ground in GROUNDS[:5]:
            for one, other in ((Lattice.oblong(2, 1), Lattice.oblong(1, 2)), (Lattice.oblong(2, 1), Lattice.oblong(3, 1)),
                               (Lattice([Point(1, 1), Point(0, 2)]), Lattice.oblong(2, 1)), (Lattice.square(2), Lattice.square(1) * Ratio(2, 3))):
                counts.add(self.check(ground, Layer(Point(HALF, 0), one), Layer(Point(1, THIRD), other)))
        self.assertTrue({1, 2} <= counts)

    def test_which_is_moved(self):
        wide = Lattice.oblong(4, 4)
        measure, layers = clearance(S, Layer(ORIGIN, wide), Layer(Point(1, 0), wide))
        self.assertEqual((measure, layers), (8, [Layer(Point(3, 2), wide)]))
        measure, layers = clearance(other=Layer(ORIGIN, wide), one=Layer(Point(1, 0), wide), ground=S)
        self.assertEqual((measure, layers), (8, [Layer(Point(1, 2), wide)]))

    def test_order_after_the_shift(self):
        """The two layers are ordered as they lie, not as the holes of the lattice do."""
        found = set()
        for x in range(6):
            _, layers, points = self.assertLayers(clearance(T, Layer(ORIGIN, Z), Layer(Point(Ratio(x, 6), Ratio(1, 7)), Z)))
            self.assertEqual(len(layers), 2)
            found.add(points[0][0] - Fraction(x, 6) > 0)
        self.assertEqual(found, {True, False})

    def test_great_numbers(self):
        draw = Draw(10)
        for size in (10 ** 30, HUNDRED):
            one, other = draw.layer(size), draw.layer(size)
            measure, layers = clearance(T, one, other)
            for layer in layers:
                gap = Layer(other.point - one.point - layer.point, one.lattice + other.lattice)
                self.assertEqual(distance(T, gap, ORIGIN), measure)


if __name__ == "__main__":
    unittest.main()
