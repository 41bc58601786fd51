"""[2], [32], [64]: bases, least bases and shapes."""

import itertools
import time
import unittest

from overfloors.bases import Base, least_bases, shape_of
from overfloors.errors import BadNumber, BadPoint, Flat
from overfloors.grounds import Ground
from overfloors.lattices import Lattice
from overfloors.points import Point
from overfloors.ratios import Ratio
from overfloors.turns import mirror, turn
from drawn import Draw, HUNDRED, Other, no_integers, no_points

SQUARES, TRIANGLES = Ground(1, 0, 1), Ground(1, 1, 1)
BIG = 10 ** 30 - 1
GROUNDS = [SQUARES, TRIANGLES, Ground(2, 0, 2), Ground(1, 0, 3), Ground(1, 1, 6), Ground(3, -5, 7), Ground(2, 2, 9), Ground(4, 3, 1)]
Z = Lattice.square(1)


def key_of(base):
    return base.u.x, base.u.y, base.v.x, base.v.y


def searched(ground, lattice, size):
    """The keys of all least bases whose points are sums of up to so many rows; three times the lattice is whole."""
    a, b, d = [(figure * 3).top for figure in (lattice.a, lattice.b, lattice.d)]
    steps = [(m * a, m * b + n * d) for m, n in itertools.product(range(-size, size + 1), repeat=2) if m or n]
    measure = {(x, y): ground.a * x * x + ground.b * x * y + ground.c * y * y for x, y in steps}
    found = []
    for u, v in itertools.product(steps, repeat=2):
        if measure[u] <= measure[v] and abs(u[0] * v[1] - u[1] * v[0]) == a * d:
            x, y = u[0] + v[0], u[1] + v[1]
            pair = ground.a * x * x + ground.b * x * y + ground.c * y * y - measure[u] - measure[v]
            if 0 <= pair <= measure[u]:
                found.append(u + v)
    return [tuple(Ratio(figure, 3) for figure in key) for key in sorted(found)]


class BaseTest(unittest.TestCase):

    def test_attributes(self):
        u, v = Point(2, 1), Point(Ratio(1, 2), 3)
        base = Base(TRIANGLES, u, v)
        self.assertEqual((base.ground, base.u, base.v), (TRIANGLES, u, v))
        self.assertEqual(base.lattice, Lattice([u, v]))
        self.assertIs(type(base.shape), tuple)
        self.assertEqual([type(figure) for figure in base.shape], [Ratio, Ratio, Ratio])
        self.assertEqual(base.shape, (Ratio(7), Ratio(29, 2), Ratio(43, 4)))
        again = Base(v=v, u=u, ground=TRIANGLES)
        self.assertIs(base == again, True)

    def test_shape(self):
        draw = Draw(1)
        for ground in GROUNDS:
            for size in (3, 9, HUNDRED):
                u, v = draw.base(size)
                shape = Base(ground, u, v).shape
                self.assertEqual(shape, (ground.measure(u), ground.pair(u, v), ground.measure(v)))

    def test_is_least(self):
        for u, v, expected in (((1, 0), (0, 1), True), ((0, 1), (1, 0), True), ((0, -1), (1, 0), True), ((1, 0), (1, 1), False),
                               ((1, 1), (1, 0), False), ((1, 0), (0, 2), True), ((0, 2), (1, 0), False), ((2, 0), (1, 3), True),
                               ((2, 0), (-1, 3), False), ((4, 0), (3, 9), False), ((4, 0), (2, 3), False), ((4, 0), (2, 4), True)):
            self.assertIs(Base(SQUARES, Point(*u), Point(*v)).is_least(), expected)
        self.assertIs(Base(TRIANGLES, Point(1, 0), Point(0, 1)).is_least(), True)
        self.assertIs(Base(TRIANGLES, Point(1, 0), Point(-1, 1)).is_least(), False)

    def test_wrong_points(self):
        right = Point(1, 2)
        for value in no_points() + [SQUARES]:
            for u, v in ((value, right), (right, value), (value, None), (Point(0, 0), value)):
                with self.assertRaises(BadPoint) as held:
                    Base(SQUARES, u, v)
                self.assertIs(held.exception.value, value)

    def test_flat(self):
        nought, right = Point(0, 0), Point(2, 3)
        for u, v in ((nought, right), (right, nought), (nought, nought), (right, right), (right, -right), (right * 3, right * 2),
                     (right * Ratio(1, 7), right * HUNDRED)):
            with self.assertRaises(Flat):
                Base(SQUARES, u, v)

    def test_equal(self):
        one, other = Point(1, 2), Point(3, 4)
        base = Base(SQUARES, one, other)
        self.assertIs(base == Base(Ground(1, 0, 1), Point(1, 2), Point(3, 4)), True)
        self.assertIs(base != Base(Ground(1, 0, 1), Point(1, 2), Point(3, 4)), False)
        for value in (Base(TRIANGLES, one, other), Base(Ground(2, 0, 2), one, other), Base(SQUARES, other, one),
                      Base(SQUARES, one, Point(3, 5)), Base(SQUARES, Point(1, 3), other), None, 1, "a", (SQUARES, one, other),
                      base.lattice, one, SQUARES, Other()):
            self.assertIs(base == value, False)
            self.assertIs(value == base, False)
            self.assertIs(base != value, True)

    def test_point_at_and_figures(self):
        draw = Draw(2)
        for size in (3, 9, HUNDRED):
            base = Base(TRIANGLES, *draw.base(size))
            for x, y in ((draw.ratio(size), draw.integer(size)), (0, 0), (1, 0), (0, 1), (-2, Ratio(1, 3))):
                point = base.point_at(x=x, y=y)
                self.assertIs(type(point), Point)
                self.assertEqual(point, base.u * x + base.v * y)
                told = base.figures(point=point)
                self.assertIs(type(told), tuple)
                self.assertEqual([type(figure) for figure in told], [Ratio, Ratio])
                self.assertEqual(told, (x, y))
            point = draw.point(size)
            self.assertEqual(base.point_at(*base.figures(point)), point)

    def test_wrong_figures(self):
        base = Base(SQUARES, Point(1, 2), Point(3, 4))
        for value in no_integers() + [SQUARES, base]:
            for x, y in ((value, 1), (1, value), (value, "b"), (Ratio(1, 2), value)):
                with self.assertRaises(BadNumber) as held:
                    base.point_at(x, y)
                self.assertIs(held.exception.value, value)
        for value in no_points() + [base]:
            with self.assertRaises(BadPoint) as held:
                base.figures(value)
            self.assertIs(held.exception.value, value)


class LeastTest(unittest.TestCase):

    def check(self, ground, lattice):
        bases = least_bases(ground, lattice)
        self.assertIs(type(bases), list)
        shape = shape_of(ground, lattice)
        self.assertIs(type(shape), tuple)
        self.assertEqual([type(figure) for figure in shape], [Ratio, Ratio, Ratio])
        p, q, r = shape
        self.assertTrue(0 <= q <= p <= r)
        self.assertEqual(4 * p * r - q * q, lattice.cell * lattice.cell * (4 * ground.a * ground.c - ground.b * ground.b))
        for base in bases:
            self.assertIs(type(base), Base)
            self.assertIs(base.ground, ground)
            self.assertEqual((base.lattice, base.shape), (lattice, shape))
            self.assertIs(base.is_least(), True)
        told = [key_of(base) for base in bases]
        self.assertEqual(told, sorted(told))
        self.assertTrue(all(one != other for one, other in itertools.combinations(told, 2)))
        ties = 4 if q == 0 else 2
        if 0 < q == p < r:
            ties = 4
        expected = {(True, 4): 8, (True, 2): 12 if p == q else 4}.get((p == r, ties), ties)
        self.assertEqual(len(bases), expected)
        return bases

    def test_example(self):
        lattice = Lattice([Point(5, 0), Point(2, 1)])
        self.assertEqual(shape_of(SQUARES, lattice), (5, 0, 5))
        bases = self.check(SQUARES, lattice)
        self.assertEqual(len(bases), 8)
        self.assertEqual((bases[0].u, bases[0].v), (Point(-2, -1), Point(-1, 2)))
        self.assertEqual(shape_of(TRIANGLES, Z), (1, 1, 1))
        self.assertEqual(len(self.check(TRIANGLES, Z)), 12)

    def test_each_number_of_bases(self):
        for ground, points, shape, many in (
            (SQUARES, [(1, 0), (0, 1)], (1, 0, 1), 8), (SQUARES, [(1, 0), (0, 2)], (1, 0, 4), 4),
            (SQUARES, [(2, 0), (1, 2)], (4, 4, 5), 4), (SQUARES, [(4, 1), (1, 4)], (17, 16, 17), 4),
            (SQUARES, [(3, 0), (1, 5)], (9, 6, 26), 2), (TRIANGLES, [(1, 0), (0, 1)], (1, 1, 1), 12),
            (TRIANGLES, [(1, 0), (-1, 2)], (1, 0, 3), 4), (TRIANGLES, [(2, 0), (0, 1)], (1, 0, 3), 4),
            (TRIANGLES, [(1, 0), (0, 3)], (1, 1, 7), 4), (Ground(2, 2, 9), [(1, 0), (0, 1)], (2, 2, 9), 4),
            (Ground(2, 1, 9), [(1, 0), (0, 1)], (2, 1, 9), 2), (Ground(2, -1, 2), [(1, 0), (0, 1)], (2, 1, 2), 4),
        ):
            lattice = Lattice([Point(*point) for point in points])
            self.assertEqual(shape_of(ground, lattice), shape)
            self.assertEqual(len(self.check(ground, lattice)), many)

    def test_search_through_short_steps(self):
        draw = Draw(10)
        counts = set()
        for ground in GROUNDS:
            lattices = [draw.narrow_lattice(index) for index in (1, 2, 3, 5)] + [draw.narrow_lattice(4) * Ratio(1, 3)]
            for lattice in lattices:
                bases = self.check(ground, lattice)
                self.assertEqual([key_of(base) for base in bases], searched(ground, lattice, 5))
                counts.add(len(bases))
        self.assertEqual(counts, {2, 4, 8, 12})

    def test_shortest_steps(self):
        draw = Draw(11)
        for ground in GROUNDS:
            lattice = draw.narrow_lattice(7)
            base = least_bases(ground, lattice)[0]
            for x, y in itertools.product(range(-7, 8), repeat=2):
                point = base.point_at(x, y)
                if y:
                    self.assertGreaterEqual(ground.measure(point), base.shape[2])
                elif x:
                    self.assertGreaterEqual(ground.measure(point), base.shape[0])

    def test_big_lattices(self):
        draw = Draw(12)
        for ground in GROUNDS + [Ground(BIG, BIG, BIG), Ground(BIG, -BIG, BIG - 1), Ground(1, 0, BIG)]:
            for size in (10 ** 15, 10 ** 30, 10 ** 120, 10 ** 300 - 1):
                self.check(ground, draw.lattice(size))
            direction = draw.whole_point(10 ** 30)
            image = Z.moved(turn(SQUARES, direction))
            self.assertEqual(len(self.check(SQUARES, image)), 8)
            self.check(ground, Lattice.oblong(10 ** 30, Ratio(1, 10 ** 30)))

    def test_motions_that_keep_lengths(self):
        """[32]: a lattice and its image have one shape, and their least bases are images of one another."""
        draw = Draw(13)
        for ground in GROUNDS:
            for direction in (Point(2, 1), Point(-3, 5), draw.point(9), draw.point(10 ** 30)):
                lattice = draw.lattice(6)
                for motion in (turn(ground, direction), mirror(ground, direction)):
                    image = lattice.moved(motion)
                    self.assertEqual(shape_of(ground, image), shape_of(ground, lattice))
                    expected = sorted([key_of(Base(ground, motion(base.u), motion(base.v)))
                                       for base in least_bases(ground, lattice)])
                    self.assertEqual([key_of(base) for base in least_bases(ground, image)], expected)

    def test_unlike_shapes(self):
        self.assertNotEqual(shape_of(SQUARES, Lattice.oblong(1, 4)), shape_of(SQUARES, Lattice.square(2)))
        self.assertEqual(shape_of(Ground(2, 0, 2), Z), shape_of(SQUARES, Lattice([Point(1, 1), Point(1, -1)])))

    def test_new_lists(self):
        first, second = least_bases(SQUARES, Z), least_bases(SQUARES, Z)
        self.assertIsNot(first, second)
        self.assertEqual(first, second)
        self.assertEqual(least_bases(lattice=Z, ground=SQUARES), first)
        self.assertEqual(shape_of(lattice=Z, ground=SQUARES), (1, 0, 1))

    def test_soon(self):
        draw = Draw(14)
        begun = time.monotonic()
        for _ in range(5):
            least_bases(Ground(BIG, 1, BIG), draw.lattice(10 ** 300 - 1))
        self.assertLess(time.monotonic() - begun, 20)


if __name__ == "__main__":
    unittest.main()
