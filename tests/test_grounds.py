"""[2], [31], [63]: grounds."""

import unittest

from overfloors.errors import BadNumber, BadPoint, NotPositive
from overfloors.grounds import Ground
from overfloors.lattices import Lattice
from overfloors.points import Form, Point
from overfloors.ratios import Ratio
from drawn import Draw, HUNDRED, Other, fraction, no_integers, no_points, pair

BIG = 10 ** 30 - 1
FIGURES = [(1, 0, 1), (1, 1, 1), (2, 0, 2), (1, -1, 1), (3, -5, 7), (1, 1, 6), (BIG, BIG, BIG), (BIG, -BIG - 7, BIG), (1, 0, BIG)]


def measure_by(figures, point):
    """The form itself, by Python's fractions."""
    a, b, c = figures
    x, y = pair(point)
    return a * x * x + b * x * y + c * y * y


class MadeTest(unittest.TestCase):

    def test_attributes(self):
        for figures in FIGURES:
            ground = Ground(*figures)
            self.assertEqual((ground.a, ground.b, ground.c), figures)
            self.assertEqual([type(figure) for figure in (ground.a, ground.b, ground.c)], [int, int, int])
        ground = Ground(c=5, b=-2, a=1)
        self.assertEqual((ground.a, ground.b, ground.c), (1, -2, 5))

    def test_wrong_numbers(self):
        for value in no_integers() + [Ratio(1), Ratio(1, 2), Ground(1, 0, 1)]:
            for figures in ((value, 0, 1), (1, value, 1), (1, 0, value), (value, "b", None), (0, value, []), (-1, 5, value)):
                with self.assertRaises(BadNumber) as held:
                    Ground(*figures)
                self.assertIs(held.exception.value, value)

    def test_not_positive(self):
        for figures in ((0, 0, 0), (0, 0, 1), (1, 0, 0), (-1, 0, -1), (-1, 0, 1), (1, 0, -1), (1, 2, 1), (1, -2, 1), (1, 3, 2),
                        (4, 4, 1), (2, 5, 3), (-2, 1, -3), (0, 1, 5), (BIG, 2 * BIG, BIG), (BIG, 2 * BIG, BIG - 1)):
            with self.assertRaises(NotPositive) as held:
                Ground(*figures)
            error = held.exception
            self.assertEqual((error.a, error.b, error.c), figures)

    def test_beside_the_edge(self):
        """4 a c - b b just above 0 and 0 itself."""
        for a, b, c in ((1, 1, 1), (1, 2, 2), (4, 3, 1), (2, 3, 2), (3, -7, 5), (BIG, 2 * BIG - 1, BIG)):
            self.assertGreater(4 * a * c, b * b)
            self.assertGreater(Ground(a, b, c).measure(Point(b, -2 * a)), 0)
        self.assertEqual(Ground(1, 2 * BIG, BIG * BIG + 1).measure(Point(-BIG, 1)), 1)
        with self.assertRaises(NotPositive):
            Ground(1, 2 * BIG, BIG * BIG)

    def test_equal(self):
        ground = Ground(1, 0, 1)
        self.assertIs(ground == Ground(1, 0, 1), True)
        self.assertIs(ground != Ground(1, 0, 1), False)
        for other in (Ground(2, 0, 2), Ground(1, 1, 1), Ground(2, 0, 1), Ground(1, 0, 2), Ground(1, -1, 1), None, 1, "a",
                      (1, 0, 1), [1, 0, 1], Point(1, 0), Form(1, 1), Lattice.square(1), Other()):
            self.assertIs(ground == other, False)
            self.assertIs(other == ground, False)
            self.assertIs(ground != other, True)


class LengthTest(unittest.TestCase):

    def test_example(self):
        self.assertEqual(Ground(1, 0, 1).measure(Point(3, 4)), 25)
        self.assertEqual(Ground(1, 1, 1).measure(Point(1, -1)), 1)
        self.assertEqual(Ground(1, 1, 1).pair(Point(1, 0), Point(0, 1)), 1)

    def test_measure(self):
        draw = Draw(1)
        for figures in FIGURES:
            ground = Ground(*figures)
            for size in (1, 3, 9, 10 ** 30, HUNDRED):
                for point in (draw.point(size), draw.whole_point(size), Point(0, 1), Point(size, 0)):
                    told = ground.measure(point=point)
                    self.assertIs(type(told), Ratio)
                    self.assertEqual(fraction(told), measure_by(figures, point))
                    self.assertIs(told > 0, bool(point))
            self.assertEqual(ground.measure(Point(0, 0)), 0)

    def test_pair(self):
        draw = Draw(2)
        for figures in FIGURES:
            ground = Ground(*figures)
            for size in (1, 3, 9, 10 ** 30, HUNDRED):
                one, other = draw.point(size), draw.point(size)
                told = ground.pair(other=other, one=one)
                self.assertIs(type(told), Ratio)
                expected = measure_by(figures, one + other) - measure_by(figures, one) - measure_by(figures, other)
                self.assertEqual(fraction(told), expected)
                self.assertEqual(ground.pair(other, one), told)
                self.assertEqual(ground.pair(one, one), ground.measure(one) * 2)
                self.assertEqual(ground.pair(one, Point(0, 0)), 0)

    def test_wrong_points(self):
        ground, right = Ground(1, 0, 1), Point(1, 2)
        for value in no_points() + [ground]:
            for call in (lambda: ground.measure(value), lambda: ground.pair(value, right), lambda: ground.pair(right, value),
                         lambda: ground.pair(value, 5)):
                with self.assertRaises(BadPoint) as held:
                    call()
                self.assertIs(held.exception.value, value)

    def test_points_stay(self):
        one, other, ground = Point(1, 2), Point(Ratio(3, 4), 5), Ground(1, 1, 6)
        ground.pair(one, other)
        ground.measure(other)
        self.assertEqual((one, other, ground), (Point(1, 2), Point(Ratio(3, 4), 5), Ground(1, 1, 6)))


if __name__ == "__main__":
    unittest.main()
