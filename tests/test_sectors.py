"""[29], [61]: the least turn in a sector."""

import math
import time
import unittest
from fractions import Fraction

from overfloors.errors import Flat
from overfloors.grounds import Ground
from overfloors.points import Point, cross
from overfloors.ratios import Ratio
from overfloors.sectors import least_turn
from overfloors.turns import turn_index
from drawn import Draw, HUNDRED, pair

S, T = Ground(1, 0, 1), Ground(1, 1, 1)
GROUNDS = [S, T, Ground(1, 1, 6), Ground(2, 0, 2), Ground(1, 0, 2), Ground(3, -2, 5), Ground(2, 1, 3), Ground(4, 2, 5),
           Ground(6, 0, 5), Ground(3, 3, 9), Ground(10, 9, 8)]


def directions(size):
    return [(x, y) for x in range(-size, size + 1) for y in range(-size, size + 1) if math.gcd(x, y) == 1]


def index_of(ground, x, y):
    """The index of the turn to (x, y) by [29]."""
    common = math.gcd(ground.a, ground.b, ground.c)
    a, b, c = ground.a // common, ground.b // common, ground.c // common
    m, n = a * x // math.gcd(a * x, y), y // math.gcd(a * x, y)
    number = m * m + b * m * n + a * c * n * n
    return number // math.gcd(number, 2 * m + b * n, b * m + 2 * a * c * n)


def figures(answer):
    index, point = answer
    return (index,) + pair(point)


class SearchTest(unittest.TestCase):

    def assertLeast(self, ground, one, other, told, known):
        """Compares an answer with the least one of all known directions, pairs of a direction and its index."""
        self.assertIs(type(told), tuple)
        index, point = told
        self.assertIs(type(index), int)
        self.assertIs(type(point), Point)
        self.assertTrue(cross(one, point) > 0 and cross(point, other) > 0)
        self.assertTrue(point.x.whole() and point.y.whole() and math.gcd(point.x.top, point.y.top) == 1)
        self.assertEqual(index, turn_index(ground, point))
        (a, b), (c, d) = pair(one), pair(other)
        within = [(number, x, y) for (x, y), number in known if a * y > b * x and x * d > y * c]
        if not within:
            return False
        least = min(within)[0]
        self.assertLessEqual(index, least)
        x, y = pair(point)
        size = max(abs(p) for (p, _), _ in known)
        if max(abs(x), abs(y)) > size:
            return False
        self.assertEqual(index, least)
        for found, p, q in within:
            if found == least:
                self.assertGreaterEqual(x * q - y * p, 0)
        return True

    def test_example(self):
        self.assertEqual(figures(least_turn(S, Point(1, 0), Point(1, 1))), (5, 3, 1))
        self.assertEqual(figures(least_turn(S, Point(10, 1), Point(9, 1))), (365, 19, 2))

    def test_sectors(self):
        draw = Draw(1)
        compared = 0
        for ground in GROUNDS:
            known = [(one, index_of(ground, *one)) for one in directions(24)]
            for size in (2, 2, 3, 4, 5, 9, 9, 15, 15, 25, 40):
                one, other = draw.base(size) if size < 9 else (draw.whole_point(size), draw.whole_point(size))
                if cross(one, other) < 0:
                    one, other = other, one
                if cross(one, other) > 0:
                    compared += self.assertLeast(ground, one, other, least_turn(ground, one, other), known)
        self.assertGreater(compared, 80)

    def test_even_divisors(self):
        """Where g of [29] is even, not each point whose linear parts it divides has a measure that it divides."""
        for figures, one, other in (((7, -8, 5), (-2, -1), (-1, -1)), ((9, 8, 5), (-2, -1), (-1, -2)), ((7, -4, 3), (2, 1), (2, 3)),
                                    ((9, 4, 7), (19, 13), (18, 24)), ((2, -6, 7), (2, 2), (-1, 3)), ((4, 2, 9), (-10, -13), (-1, -12)),
                                    ((2, 4, 4), (1, 1), (-3, 2)), ((1, 2, 2), (7, 11), (-12, 11))):
            ground = Ground(*figures)
            known = [(each, index_of(ground, *each)) for each in directions(60)]
            told = least_turn(ground, Point(*one), Point(*other))
            self.assertTrue(self.assertLeast(ground, Point(*one), Point(*other), told, known))

    def test_below_the_line(self):
        compared = 0
        for ground in GROUNDS:
            known = [(one, index_of(ground, *one)) for one in directions(24)]
            for one, other in (((5, -1), (5, 1)), ((3, -2), (4, -1)), ((-5, 1), (-5, -1)), ((-1, -3), (1, -9)), ((1, -1), (1, 1)),
                               ((0, -1), (1, 0)), ((-1, 0), (0, -1)), ((7, -3), (9, 5)), ((-2, -5), (-1, -4))):
                told = least_turn(ground, Point(*one), Point(*other))
                compared += self.assertLeast(ground, Point(*one), Point(*other), told, known)
        self.assertGreater(compared, 90)
        self.assertEqual(figures(least_turn(S, Point(5, -1), Point(5, 1))), (1, 1, 0))
        self.assertEqual(figures(least_turn(S, Point(-5, 1), Point(-5, -1))), (1, -1, 0))
        self.assertEqual(figures(least_turn(S, Point(0, -1), Point(1, 0))), (1, 1, -1))
        self.assertEqual(figures(least_turn(S, Point(1, -1), Point(1, 0))), (5, 2, -1))

    def test_wide_sectors(self):
        for ground in GROUNDS:
            known = [(one, index_of(ground, *one)) for one in directions(24)]
            for one, other in (((1, 0), (-100, 1)), ((100, -1), (-99, 2)), ((0, 1), (-1, -100)), ((-3, 2), (3, -3)),
                               ((1, 1), (-HUNDRED, 1 - HUNDRED)), ((-1, -1), (HUNDRED, HUNDRED - 1))):
                told = least_turn(ground, Point(*one), Point(*other))
                self.assertTrue(self.assertLeast(ground, Point(*one), Point(*other), told, known))

    def test_first_of_several(self):
        self.assertEqual(figures(least_turn(S, Point(10, 1), Point(1, 10))), (1, 1, 1))
        self.assertEqual(figures(least_turn(S, Point(1, 0), Point(-1, 10))), (1, 1, 1))
        self.assertEqual(figures(least_turn(S, Point(3, 1), Point(1, 1))), (5, 2, 1))
        self.assertEqual(figures(least_turn(S, Point(10, -1), Point(-10, 1) + Point(0, Ratio(1, 9)))), (1, 1, 0))

    def test_borders_do_not_count(self):
        for x, y in directions(3):
            for number in (1, Ratio(1, 2), HUNDRED):
                one = Point(x, y) * number
                told = least_turn(S, one, Point(-y, x) + Point(x, y) * 5)
                self.assertTrue(cross(one, told[1]) > 0)

    def test_scales_and_other_names(self):
        one, other = Point(10, 1), Point(9, 1)
        expected = figures(least_turn(T, one, other))
        self.assertEqual(figures(least_turn(T, one * Ratio(3, 7), other * HUNDRED)), expected)
        self.assertEqual(figures(least_turn(other=other, one=one, ground=T)), expected)
        self.assertEqual(figures(least_turn(Ground(6, 6, 6), one, other)), expected)


class NarrowTest(unittest.TestCase):

    def test_between_neighbours(self):
        """Between whole directions of the area 1 lie just their sums, of which the first one is the shortest."""
        draw = Draw(10)
        for size in (10 ** 30, HUNDRED):
            for _ in range(10):
                x, y = draw.integer(size), abs(draw.integer(size)) + 1
                common = math.gcd(x, y)
                x, y = x // common, y // common
                # (p, q) with x q - y p = 1.
                q = pow(x, -1, y) if y > 1 else 1
                p = (x * q - 1) // y
                one, other = Point(x, y), Point(p, q) + Point(x, y) * 5
                told = least_turn(S, one, other)
                self.assertTrue(cross(one, told[1]) > 0 and cross(told[1], other) > 0)
                self.assertEqual(told[0], turn_index(S, told[1]))
                sums = [one * m + other * n for m in range(1, 8) for n in range(1, 8)]
                for point in sums:
                    self.assertLessEqual(told[0], turn_index(S, point))
                self.assertIn(pair(told[1]), [pair(point) for point in sums])

    def test_found_again(self):
        """A turn whose index is less than any other one's with as near a direction is found in a narrow sector about it."""
        draw = Draw(11)
        for ground in GROUNDS:
            for size in (10 ** 6, 10 ** 30):
                for _ in range(4):
                    x, y = draw.integer(size), draw.integer(size)
                    common = math.gcd(x, y)
                    point = Point(x // common, y // common)
                    index = turn_index(ground, point)
                    around = Point(-point.y, point.x) * Ratio(1, 10 ** 6 * size ** 2)
                    told = least_turn(ground, point - around, point + around)
                    self.assertEqual(told[0], index)
                    self.assertEqual(told[1], point)

    def test_just_beside(self):
        """A sector from a direction on: what is told lies beside it and is met by searching the sums of a base."""
        for ground in GROUNDS:
            for x, y in ((1, 0), (0, 1), (2, 1), (-3, 2), (3, -5)):
                one = Point(x, y)
                for power in (3, 30):
                    other = one * 10 ** power + Point(-y, x)
                    index, point = least_turn(ground, one, other)
                    self.assertTrue(cross(one, point) > 0 and cross(point, other) > 0)
                    self.assertEqual(index, turn_index(ground, point))
                    again = least_turn(ground, one, point)
                    self.assertGreaterEqual(again[0], index)
                    again = least_turn(ground, point, other)
                    self.assertGreater(again[0], index - 1)

    def test_narrower_and_narrower(self):
        """Cutting a sector at the answer leaves two sectors with no smaller index, none as small on the near side."""
        for ground in GROUNDS:
            one, other = Point(3, 1), Point(2, 1)
            for _ in range(40):
                index, point = least_turn(ground, one, other)
                near, far = least_turn(ground, one, point), least_turn(ground, point, other)
                self.assertGreater(near[0], index)
                self.assertGreaterEqual(far[0], index)
                one, other = (one, point) if near[0] < far[0] else (point, other)

    def test_golden_section(self):
        """For squares between neighbours in a row of Fibonacci: the index grows as their sums do."""
        a, b = 0, 1
        for _ in range(300):
            a, b = b, a + b
            one, other = sorted([(a, b), (b, a + b)], key=lambda pair: Fraction(pair[1], pair[0]) if pair[0] else 0)
            if one[0] * other[1] - one[1] * other[0] > 0:
                index, point = least_turn(S, Point(*one), Point(*other))
                sums = [Point(*one) * m + Point(*other) * n for m in (1, 2, 3) for n in (1, 2, 3)]
                self.assertEqual(index, min(turn_index(S, each) for each in sums))
                self.assertIn(pair(point), [pair(each) for each in sums])

    def test_soon(self):
        draw = Draw(12)
        begun = time.monotonic()
        for ground in (Ground(90, 0, 77), Ground(100, 100, 97), Ground(99, -3, 70), S):
            for size in (10 ** 120, 10 ** 300 - 1):
                one = draw.point(size)
                other = one + Point(Ratio(1, size), Ratio(-1, size - 1))
                if cross(one, other) < 0:
                    one, other = other, one
                index, point = least_turn(ground, one, other)
                self.assertTrue(cross(one, point) > 0 and cross(point, other) > 0)
                self.assertEqual(index, turn_index(ground, point))
        self.assertLess(time.monotonic() - begun, 20)


class FlatTest(unittest.TestCase):

    def test_flat(self):
        for one, other in (((1, 0), (1, 0)), ((1, 1), (1, 0)), ((1, 0), (-1, 0)), ((2, 1), (-4, -2)), ((0, 0), (1, 0)),
                           ((1, 0), (0, 0)), ((0, 0), (0, 0)), ((9, 1), (10, 1)), ((0, 1), (1, 0)), ((3, 6), (1, 2))):
            for ground in GROUNDS[:3]:
                with self.assertRaises(Flat):
                    least_turn(ground, Point(*one), Point(*other))
        near = Point(HUNDRED + 1, HUNDRED)
        with self.assertRaises(Flat):
            least_turn(S, Point(1, 1), near)
        self.assertGreater(least_turn(S, near, Point(1, 1))[0], HUNDRED)


if __name__ == "__main__":
    unittest.main()
