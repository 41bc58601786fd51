"""[14], [15], [55]: layers."""

import itertools
import operator
import time
import unittest

from overfloors.errors import BadNumber, BadPoint
from overfloors.lattices import Lattice
from overfloors.layers import Layer
from overfloors.motions import Motion, shifting, stretching
from overfloors.points import Form, Point
from overfloors.ratios import Ratio
from drawn import Draw, HUNDRED, Other, no_lattices, no_points, places

SLANTED = Lattice([Point(2, 1), Point(0, 3)])
SMALL = (1, 2, 3, 4, 6, 12)


def layers(seed, many=8):
    draw = Draw(seed)
    found = [Layer(Point(0, 0), Lattice.square(1)), Layer(Point(1, 2), SLANTED)]
    found += [draw.layer(6) for _ in range(many)]
    found += [draw.narrow_layer(SMALL) for _ in range(many)]
    return found + [draw.layer(HUNDRED), Layer(draw.point(HUNDRED), draw.lattice(5))]


def small_pairs(seed, many=60):
    draw = Draw(seed)
    return [(draw.narrow_layer(SMALL), draw.narrow_layer(SMALL)) for _ in range(many)]


class Base(unittest.TestCase):

    def assertLayer(self, layer, point, lattice):
        self.assertIs(type(layer), Layer)
        self.assertIs(type(layer.point), Point)
        self.assertIs(type(layer.lattice), Lattice)
        self.assertEqual(layer.lattice, lattice)
        self.assertEqual(layer.point, lattice.rest(point))


class MadeTest(Base):

    def test_point_in_the_oblong(self):
        draw = Draw(1)
        for layer in layers(2):
            lattice = layer.lattice
            point = draw.point(HUNDRED)
            made = Layer(point, lattice)
            self.assertTrue(0 <= made.point.x < lattice.a and 0 <= made.point.y < lattice.d)
            self.assertIn(made.point - point, lattice)
            self.assertLayer(made, point, lattice)
            self.assertLayer(Layer(lattice=lattice, point=point), point, lattice)

    def test_example(self):
        layer = Layer(Point(5, 1), SLANTED)
        self.assertEqual((layer.point, layer.lattice), (Point(1, 2), SLANTED))
        for number in (layer.point.x, layer.point.y):
            self.assertIs(type(number), Ratio)

    def test_wrong_points(self):
        for value in no_points():
            for lattice in (SLANTED, None, "ab"):
                with self.assertRaises(BadPoint) as held:
                    Layer(value, lattice)
                self.assertIs(held.exception.value, value)

    def test_wrong_lattices(self):
        for value in no_lattices():
            with self.assertRaises(BadPoint) as held:
                Layer(Point(1, 2), value)
            self.assertIs(held.exception.value, value)
            with self.assertRaises(BadPoint) as held:
                Layer(lattice=value, point=Point(1, 2))
            self.assertIs(held.exception.value, value)

    def test_thickness(self):
        for layer in layers(3):
            told = layer.thickness
            self.assertIs(type(told), Ratio)
            self.assertEqual(told * layer.lattice.cell, 1)
        self.assertEqual(Layer(Point(0, 0), SLANTED).thickness, Ratio(1, 6))
        self.assertEqual(Layer(Point(0, 0), Lattice.oblong(2, Ratio(1, 6))).thickness, 3)

    def test_thickness_by_counting(self):
        for layer, _ in small_pairs(4, 20):
            self.assertEqual(layer.thickness, Ratio(len(places(layer, 12)), 144))


class EqualTest(Base):

    def same(self, one, other):
        self.assertIs(one == other, True)
        self.assertIs(other == one, True)
        self.assertIs(one != other, False)

    def test_equal_sets_told_otherwise(self):
        draw = Draw(5)
        for layer in layers(6):
            lattice = layer.lattice
            u, v = lattice.rows()
            for point in (layer.point + draw.member(lattice, 9), layer.point - draw.member(lattice, HUNDRED)):
                self.same(Layer(point, lattice), layer)
                self.same(Layer(point, Lattice([v, u + v * 3])), layer)

    def test_unlike_sets(self):
        draw = Draw(7)
        for layer in layers(8):
            u, v = layer.lattice.rows()
            for other in (layer.shifted(u * Ratio(1, 2)), layer.shifted(v * Ratio(2, 3)),
                          Layer(layer.point, layer.lattice * 2), Layer(layer.point, Lattice([u, v * Ratio(1, 2)]))):
                self.assertIs(layer == other, False)
                self.assertIs(layer != other, True)
            for value in (None, True, 0, "a", (), [layer], layer.point, layer.lattice, Form(1, 2), draw, Other()):
                self.assertIs(layer == value, False)
                self.assertIs(value == layer, False)

    def test_as_sets_of_points(self):
        for one, other in small_pairs(9, 200):
            self.assertIs(one == other, places(one, 12) == places(other, 12))


class MembersTest(Base):

    def test_members_and_points_beside(self):
        draw = Draw(10)
        for layer in layers(11):
            u, v = layer.lattice.rows()
            self.assertIs(layer.point in layer, True)
            for size in (9, HUNDRED):
                point = layer.point + draw.member(layer.lattice, size)
                self.assertIs(point in layer, True)
                for beside in (u * Ratio(1, 2), v * Ratio(1, 3), (u + v) * Ratio(1, 2), v * Ratio(1, HUNDRED)):
                    self.assertIs(point + beside in layer, False)

    def test_point_by_point(self):
        for layer, _ in small_pairs(12, 30):
            held = places(layer, 12)
            for x, y in itertools.product(range(12), repeat=2):
                self.assertIs(Point(x - 12, y + 24) in layer, (x, y) in held)
            self.assertIs(layer.point + Point(Ratio(1, 2), 0) in layer, False)

    def test_within(self):
        for one, other in small_pairs(13, 200):
            self.assertIs(one <= other, places(one, 12) <= places(other, 12))
            self.assertIs(other <= one, places(other, 12) <= places(one, 12))

    def test_within_both_ways(self):
        draw = Draw(14)
        for layer in layers(15):
            lattice = layer.lattice
            lower = Layer(layer.point + draw.member(lattice, 9), lattice * 2)
            self.assertIs(lower <= layer, True)
            self.assertIs(layer <= lower, False)
            self.assertIs(layer >= lower, True)
            self.assertIs(layer <= layer, True)
            beside = lower.shifted(lattice.rows()[0] * Ratio(1, 2))
            self.assertIs(beside <= layer, False)
            self.assertIs(layer <= beside, False)

    def test_wrong_operands(self):
        layer = Layer(Point(1, 2), SLANTED)
        for sign in (operator.and_, operator.add, operator.sub, operator.le):
            for value in (None, 1, "a", Point(1, 2), SLANTED):
                with self.assertRaises(TypeError):
                    sign(layer, value)


class MeetTest(Base):

    def test_examples(self):
        even, third = Layer(Point(0, 0), Lattice.oblong(2, 1)), Layer(Point(1, 0), Lattice.oblong(3, 1))
        self.assertEqual(even & third, Layer(Point(4, 0), Lattice.oblong(6, 1)))
        self.assertEqual(even - third, Layer(Point(0, 0), Lattice.square(1)))
        self.assertIsNone(even & even.shifted(Point(1, 0)))

    def test_common_points_one_by_one(self):
        for one, other in small_pairs(20, 300):
            expected = places(one, 12) & places(other, 12)
            common = one & other
            if common is None:
                self.assertEqual(expected, set())
            else:
                self.assertIs(type(common), Layer)
                self.assertEqual(places(common, 12), expected)

    def test_common_point(self):
        """All common points: what is common lies within both, and its cell is due."""
        draw = Draw(21)
        for one, other in itertools.product(layers(22, 3), layers(23, 3)):
            point = one.point + draw.member(one.lattice, 9)
            for met in (Layer(point, other.lattice), Layer(point + draw.member(other.lattice, 9), other.lattice)):
                common = one & met
                self.assertLayer(common, point, one.lattice & met.lattice)
                self.assertTrue(common <= one and common <= met and point in common)
                joint = one.lattice + met.lattice
                self.assertEqual(common.lattice.cell * joint.cell, one.lattice.cell * met.lattice.cell)
                self.assertEqual(met & one, common)

    def test_no_common_point(self):
        draw = Draw(24)
        for one, other in itertools.product(layers(25, 3), layers(26, 3)):
            joint = one.lattice + other.lattice
            for row in joint.rows():
                beside = one.point + draw.member(joint, 9) + row * Ratio(2, 7)
                self.assertIsNone(one & Layer(beside, other.lattice))
                self.assertIsNone(Layer(beside, other.lattice) & one)
                self.assertIsNotNone(one & Layer(beside + row * Ratio(5, 7), other.lattice))

    def test_one_within_the_other(self):
        for layer in layers(27):
            lower = Layer(layer.point, layer.lattice * 3)
            self.assertEqual(layer & lower, lower)
            self.assertEqual(lower & layer, lower)
            self.assertEqual(layer & layer, layer)


class SumsTest(Base):

    def test_sums_and_differences_one_by_one(self):
        for one, other in small_pairs(30, 40):
            first, second = places(one, 12), places(other, 12)
            sums = {((x + p) % 12, (y + q) % 12) for x, y in first for p, q in second}
            self.assertEqual(places(one + other, 12), sums)
            less = {((x - p) % 12, (y - q) % 12) for x, y in first for p, q in second}
            self.assertEqual(places(one - other, 12), less)

    def test_sums_and_differences(self):
        for one, other in itertools.product(layers(31, 2), layers(32, 2)):
            joint = one.lattice + other.lattice
            self.assertLayer(one + other, one.point + other.point, joint)
            self.assertLayer(one - other, one.point - other.point, joint)
            self.assertEqual(one - other, -(other - one))
            self.assertEqual(one + other, other + one)

    def test_opposite(self):
        for layer in layers(33):
            self.assertLayer(-layer, -layer.point, layer.lattice)
            self.assertEqual(-(-layer), layer)
            self.assertIs(-layer == layer, layer.point * 2 in layer.lattice)

    def test_multiples(self):
        draw = Draw(34)
        for layer in layers(35):
            for number in (1, 2, 7, -1, -3, Ratio(2, 3), Ratio(-5, 4), HUNDRED, -HUNDRED, draw.ratio(HUNDRED)):
                lattice = Lattice([row * number for row in layer.lattice.rows()])
                self.assertLayer(layer * number, layer.point * number, lattice)
                self.assertLayer(number * layer, layer.point * number, lattice)
                point = layer.point + draw.member(layer.lattice, 9)
                self.assertIn(point * number, number * layer)
            self.assertEqual(layer * -1, -layer)

    def test_multiples_by_zero(self):
        layer = Layer(Point(1, 2), SLANTED)
        for zero in (0, Ratio(0)):
            for given in ((layer, zero), (zero, layer)):
                with self.assertRaises(BadNumber) as held:
                    operator.mul(*given)
                self.assertIs(held.exception.value, zero)

    def test_wrong_factors(self):
        layer = Layer(Point(1, 2), SLANTED)
        for value in (None, True, False, "a", Point(1, 2), SLANTED, layer, shifting(Point(1, 2))):
            for given in ((layer, value), (value, layer)):
                with self.assertRaises(TypeError):
                    operator.mul(*given)


class MovedTest(Base):

    def test_shifted(self):
        draw = Draw(40)
        for layer in layers(41):
            point = draw.point(9)
            self.assertLayer(layer.shifted(point), layer.point + point, layer.lattice)
            self.assertEqual(layer.shifted(point=point).shifted(-point), layer)
            self.assertEqual(layer.shifted(draw.member(layer.lattice, HUNDRED)), layer)
            self.assertEqual(layer.shifted(Point(0, 0)), layer)

    def test_moved(self):
        draw = Draw(42)
        fifths = [[Ratio(3, 5), Ratio(-4, 5)], [Ratio(4, 5), Ratio(3, 5)]]
        for layer in layers(43):
            for table in ([[0, -1], [1, 0]], [[1, 0], [0, -1]], [[2, 1], [0, -3]], [[1, 5], [2, -7]], fifths):
                motion = Motion(table, draw.point(9))
                moved = layer.moved(motion)
                self.assertLayer(moved, motion(layer.point), layer.lattice.moved(motion))
                self.assertIn(motion(layer.point + draw.member(layer.lattice, 9)), moved)
                self.assertEqual(moved.moved(motion=~motion), layer)
            point = draw.point(9)
            self.assertEqual(layer.moved(shifting(point)), layer.shifted(point))
            self.assertEqual(layer.moved(stretching(Ratio(-2, 3))), Ratio(-2, 3) * layer)

    def test_moved_one_by_one(self):
        for layer, _ in small_pairs(44, 20):
            held = {((3 - y) % 12, (x + 5) % 12) for x, y in places(layer, 12)}
            self.assertEqual(places(layer.moved(Motion([[0, -1], [1, 0]], Point(3, 5))), 12), held)

    def test_operands_stay(self):
        one, other = Layer(Point(5, 1), SLANTED), Layer(Point(1, 0), Lattice.square(2))
        motion = Motion([[0, -1], [1, 0]], Point(1, 0))
        told = [one & other, one + other, one - other, -one, one * 3, 3 * one, one <= other, one == other,
                Point(1, 1) in one, one.shifted(Point(1, 1)), one.moved(motion), one.thickness]
        self.assertEqual(len(told), 12)
        self.assertLayer(one, Point(5, 1), Lattice([Point(2, 1), Point(0, 3)]))
        self.assertEqual(one.point, Point(1, 2))
        self.assertLayer(other, Point(1, 0), Lattice.square(2))
        self.assertEqual(motion, Motion([[0, -1], [1, 0]], Point(1, 0)))


class LimitsTest(Base):
    """[80]: single layers with numbers of 300 figures."""

    def test_three_hundred_figures(self):
        draw = Draw(50)
        size = 10 ** 300 - 1
        begun = time.monotonic()
        one, lattice = draw.layer(size), draw.lattice(size)
        point = one.point + draw.member(one.lattice, size)
        other = Layer(point, lattice)
        common = one & other
        self.assertLayer(common, point, one.lattice & lattice)
        self.assertTrue(common <= one and common <= other)
        self.assertIsNone(one & other.shifted((one.lattice + lattice).rows()[1] * Ratio(1, 2)))
        self.assertEqual((one + other) - other, Layer(one.point, one.lattice + lattice))
        number = draw.ratio(size)
        self.assertIn(point * number, one * number)
        self.assertLess(time.monotonic() - begun, 20)


if __name__ == "__main__":
    unittest.main()
