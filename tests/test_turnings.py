"""[2], [30], [62]: turns made of turns."""

import itertools
import math
import time
import unittest

from overfloors.errors import Flat, NotPlain
from overfloors.grounds import Ground
from overfloors.lattices import Lattice
from overfloors.motions import Motion
from overfloors.points import Point
from overfloors.ratios import Ratio
from overfloors.turnings import Turning
from overfloors.turns import direction, turn, turn_index
from drawn import Draw, HUNDRED

S, T = Ground(1, 0, 1), Ground(1, 1, 1)
STILL = Motion([[1, 0], [0, 1]])
Z = Lattice.square(1)
PLAIN = [S, T, Ground(1, 1, 2), Ground(1, 0, 2), Ground(2, 1, 3), Ground(1, 1, 6), Ground(1, 0, 5), Ground(2, 2, 3), Ground(3, -1, 5),
         Ground(2, -3, 6), Ground(1, -1, 41)]
OTHERS = [Ground(2, 0, 2), Ground(1, 0, 3), Ground(2, 2, 2), Ground(3, 3, 3), Ground(1, 0, 4), Ground(1, 0, 7), Ground(1, 1, 7),
          Ground(1, 0, 9), Ground(1, 0, 18), Ground(5, 0, 5), Ground(1, 2, 4), Ground(3, 0, 9), Ground(1, 1, 19)]


def is_own(motion):
    return Z.moved(motion) == Z


def product(ground, points, exponents):
    """The product of the powers of the turns."""
    done = STILL
    for point, many in zip(points, exponents):
        done = done * turn(ground, point).power(many)
    return done


def less(row, table):
    """A row less multiples of the rows of a least table."""
    row = list(row)
    for lower in table:
        at = next(index for index, figure in enumerate(lower) if figure)
        many = row[at] // lower[at]
        row = [figure - many * other for figure, other in zip(row, lower)]
    return tuple(row)


class Ring:
    """Directions (x, y) as the numbers a x + w y with w w = b w - a c, whose products add up their angles to (1, 0)."""

    def __init__(self, ground):
        self.a, self.b, self.c = ground.a, ground.b, ground.c

    def times(self, one, other):
        m = one[0] * other[0] - one[1] * other[1] * self.a * self.c
        n = one[0] * other[1] + one[1] * other[0] + self.b * one[1] * other[1]
        common = math.gcd(m, n)
        return m // common, n // common

    def power(self, one, many):
        """A power of one; for many below 0 of its mirror image."""
        if many < 0:
            one, many = (one[0] + self.b * one[1], -one[1]), -many
        done = (1, 0)
        for digit in bin(many)[2:]:
            done = self.times(done, done)
            if digit == "1":
                done = self.times(done, one)
        return done

    def direction(self, points, exponents):
        done = (1, 0)
        for (x, y), many in zip(points, exponents):
            done = self.times(done, self.power((self.a * x, y), many))
        return Point(Ratio(done[0], self.a), done[1])


class Base(unittest.TestCase):

    def assertTable(self, table, width):
        """The form that [30] tells."""
        self.assertIs(type(table), list)
        heads = []
        for row in table:
            self.assertIs(type(row), tuple)
            self.assertEqual([type(figure) for figure in row], [int] * width)
            head = next(at for at, figure in enumerate(row) if figure)
            self.assertGreater(row[head], 0)
            for other in table[:len(heads)]:
                self.assertTrue(0 <= other[head] < row[head])
            heads.append(head)
        self.assertEqual(heads, sorted(set(heads)))


class RelationsTest(Base):

    def test_example(self):
        self.assertEqual(Turning(S, [Point(2, 1), Point(3, 1)]).relations(), [(1, 1)])
        self.assertEqual(Turning(S, [Point(2, 1), Point(3, 2)]).relations(), [])
        self.assertEqual(Turning(S, [Point(2, 1)]).made(Point(4, 3)), (-2,))
        self.assertIsNone(Turning(S, [Point(2, 1)]).made(Point(3, 2)))

    def test_attributes(self):
        points = [Point(2, 1), Point(Ratio(1, 2), -3)]
        turning = Turning(S, points)
        self.assertIs(turning.ground, S)
        self.assertIs(type(turning.points), tuple)
        self.assertEqual(turning.points, tuple(points))
        points.append(Point(1, 1))
        points[0] = Point(5, 7)
        self.assertEqual(turning.points, (Point(2, 1), Point(Ratio(1, 2), -3)))
        again = Turning(points=(Point(2, 1), Point(3, 1)), ground=S)
        self.assertEqual((again.points, again.relations()), ((Point(2, 1), Point(3, 1)), [(1, 1)]))
        self.assertIs(again == Turning(S, [Point(2, 1), Point(3, 1)]), False)

    def test_small_relations(self):
        """Each row is a relation, and each relation of a search is a sum of the rows."""
        draw = Draw(1)
        kinds = set()
        for ground in PLAIN:
            for many in (1, 2, 2, 3):
                points = [draw.whole_point(3) for _ in range(many)]
                points = [point if point else Point(1, 1) for point in points]
                if many == 3:
                    points[2] = direction(ground, product(ground, points[:2], (2, -1)))
                turning = Turning(ground, points)
                table = turning.relations()
                self.assertTable(table, many)
                self.assertIs(turning.is_free, table == [])
                kinds.add((many, len(table)))
                for row in table:
                    self.assertTrue(is_own(product(ground, points, row)))
                turned = [[turn(ground, point).power(number) for number in range(-2, 3)] for point in points]
                for row in itertools.product(range(-2, 3), repeat=many):
                    motion = STILL
                    for powers, number in zip(turned, row):
                        motion = motion * powers[number + 2]
                    self.assertIs(is_own(motion), not any(less(row, table)))
        self.assertGreaterEqual(len(kinds), 6)

    def test_own_turns(self):
        for ground in PLAIN:
            self.assertEqual(Turning(ground, [Point(1, 0)]).relations(), [(1,)])
            self.assertEqual(Turning(ground, [Point(-5, 0), Point(1, 0)]).relations(), [(1, 0), (0, 1)])
            self.assertIs(Turning(ground, [Point(1, 0)]).is_free, False)
        self.assertEqual(Turning(S, [Point(1, 1), Point(2, 1), Point(0, 3)]).relations(), [(1, 0, 0), (0, 0, 1)])
        self.assertEqual(Turning(T, [Point(1, 1), Point(2, 1)]).made(Point(-1, 1)), (0, 0))

    def test_told_twice(self):
        point = Point(2, 1)
        self.assertEqual(Turning(S, [point, point * -3]).relations(), [(1, -1)])
        self.assertEqual(Turning(S, [point, Point(1, 2), point]).relations(), [(1, 0, -1), (0, 1, 1)])
        self.assertEqual(Turning(S, [Point(3, 4), point]).relations(), [(1, -2)])
        self.assertEqual(Turning(S, [point, Point(3, 4)]).relations(), [(2, -1)])
        self.assertEqual(Turning(S, [point] * 6).relations(), [tuple(1 if at == row else -1 if at == 5 else 0 for at in range(6))
                                                               for row in range(5)])

    def test_reduced_above_the_heads(self):
        ring = Ring(S)
        points = [ring.direction([(2, 1)], [many]) for many in (6, 10, 15)]
        table = Turning(S, points).relations()
        self.assertTable(table, 3)
        self.assertEqual(len(table), 2)
        determinant = table[0][0] * table[1][1]
        self.assertEqual(determinant, 15)
        for row in table:
            self.assertEqual(6 * row[0] + 10 * row[1] + 15 * row[2], 0)

    def test_unlike_ways_at_one_index(self):
        """Turns of one index 65 whose two primes go the same way, and opposite ways."""
        one, other = Point(8, 1), Point(7, 4)
        self.assertEqual((turn_index(S, one), turn_index(S, other)), (65, 65))
        self.assertEqual(Turning(S, [one, other]).relations(), [])
        five, thirteen = Point(2, 1), Point(3, 2)
        for points in itertools.permutations([one, other, five, thirteen]):
            table = Turning(S, points).relations()
            self.assertEqual(len(table), 2)
            for row in table:
                self.assertTrue(is_own(product(S, points, row)))

    def test_six_turns(self):
        draw = Draw(2)
        for ground in PLAIN:
            ring = Ring(ground)
            parts = [(3, 1), (2, 5), (-4, 3)]
            exponents = [[draw.integer(3) for _ in parts] for _ in range(6)]
            points = [ring.direction(parts, row) for row in exponents]
            table = Turning(ground, points).relations()
            self.assertTable(table, 6)
            self.assertGreaterEqual(len(table), 3)
            for row in table:
                if max(abs(number) for number in row) < 60:
                    self.assertTrue(is_own(product(ground, points, row)))
            rank = len(Turning(ground, [Point(*part) for part in parts]).relations())
            self.assertLessEqual(len(table), 6)
            if rank == 0:
                for row in table:
                    sums = [sum(many * number[at] for many, number in zip(row, exponents)) for at in range(3)]
                    self.assertEqual(sums, [0, 0, 0])

    def test_new_lists(self):
        turning = Turning(S, [Point(2, 1), Point(3, 1)])
        told = turning.relations()
        told.append(None)
        self.assertEqual(turning.relations(), [(1, 1)])
        self.assertEqual(turning.made(Point(2, 1)), turning.made(Point(2, 1)))
        self.assertEqual(turning.relations(), [(1, 1)])


class MadeTest(Base):

    def test_powers(self):
        """Powers give the turn up to an own turn, and are reduced by the least table."""
        draw = Draw(10)
        for ground in PLAIN:
            for many in (1, 2, 3):
                points = [draw.whole_point(4) + Point(5, 0) for _ in range(many)]
                if many == 3:
                    points[1] = points[0] * -2
                turning = Turning(ground, points)
                table = turning.relations()
                for _ in range(4):
                    row = [draw.integer(3) for _ in range(many)]
                    motion = product(ground, points, row)
                    told = turning.made(point=direction(ground, motion) * Ratio(-2, 3))
                    self.assertIs(type(told), tuple)
                    self.assertEqual([type(figure) for figure in told], [int] * many)
                    self.assertEqual(told, less(row, table))
                    self.assertEqual(told, less(told, table))
                    self.assertTrue(is_own(product(ground, points, told) * ~motion))

    def test_not_made(self):
        """None only where no small exponents do."""
        draw = Draw(11)
        count = 0
        for ground in PLAIN[:8]:
            points = [Point(2, 1), Point(1, 3)]
            turning = Turning(ground, points)
            known = [(row, product(ground, points, row)) for row in itertools.product(range(-3, 4), repeat=2)]
            for x, y in ((1, 0), (3, 2), (1, 1), (4, 3), (0, 1), (5, -2), (7, 1)):
                turned = turn(ground, Point(x, y))
                told = turning.made(Point(x, y))
                fit = [row for row, motion in known if is_own(motion * ~turned)]
                if told is None:
                    self.assertEqual(fit, [])
                    count += 1
                else:
                    self.assertTrue(is_own(product(ground, points, told) * ~turned))
                    self.assertEqual({less(row, turning.relations()) for row in fit} | {told}, {told})
        self.assertGreater(count, 10)

    def test_only_a_power_is_made(self):
        """A turn of which the turns make only a power."""
        ring = Ring(S)
        square, cube = ring.direction([(2, 1)], [2]), ring.direction([(2, 1)], [3])
        self.assertIsNone(Turning(S, [square]).made(Point(2, 1)))
        self.assertEqual(Turning(S, [square]).made(ring.direction([(2, 1)], [-8])), (-4,))
        told = Turning(S, [square, cube]).made(Point(2, 1))
        self.assertEqual(2 * told[0] + 3 * told[1], 1)
        self.assertTrue(0 <= told[0] < 3)

    def test_own_turn(self):
        for ground in PLAIN:
            turning = Turning(ground, [Point(3, 1), Point(2, 5)])
            self.assertEqual(turning.made(Point(7, 0)), less((0, 0), turning.relations()))
        self.assertEqual(Turning(S, [Point(2, 1)]).made(Point(-1, 2)), (1,))
        self.assertEqual(Turning(S, [Point(2, 1)]).made(Point(1, 2)), (-1,))

    def test_flat(self):
        turning = Turning(S, [Point(2, 1)])
        with self.assertRaises(Flat):
            turning.made(Point(0, 0))


class BigTest(Base):

    def test_hundreds_of_figures(self):
        draw = Draw(20)
        for ground in PLAIN:
            ring = Ring(ground)
            parts = [(3, 1), (2, 5), (-4, 3), (7, 2)]
            if Turning(ground, [Point(*part) for part in parts]).relations():
                continue
            exponents = [[draw.integer(150) for _ in parts] for _ in range(3)]
            points = [ring.direction(parts, row) for row in exponents]
            self.assertGreater(max(point.x.top.bit_length() for point in points), 300)
            mixed = [3 * one - 2 * other + 5 * third for one, other, third in zip(*exponents)]
            turning = Turning(ground, points)
            if turning.relations() == []:
                self.assertEqual(turning.made(ring.direction(parts, mixed)), (3, -2, 5))
            mixed[0] += 1
            joint = Turning(ground, points + [ring.direction(parts, mixed)])
            for row in joint.relations():
                for at in range(4):
                    self.assertEqual(sum(many * number[at] for many, number in zip(row, exponents + [mixed])), 0)

    def test_great_primes(self):
        """Indices that nobody takes apart: random directions of 300 figures and their products."""
        draw = Draw(21)
        size = 10 ** 300 - 1
        for ground in PLAIN:
            ring = Ring(ground)
            parts = [(draw.integer(size), draw.integer(size)) for _ in range(2)]
            parts.append((draw.integer(100), draw.integer(100) + 101))
            points = [Point(*part) for part in parts]
            turning = Turning(ground, points)
            self.assertEqual((turning.relations(), turning.is_free), ([], True))
            self.assertEqual(turning.made(ring.direction(parts, (1, -2, 3))), (1, -2, 3))
            self.assertIsNone(turning.made(ring.direction(parts[:1] + [(1, 7)], (1, 1))))
            table = Turning(ground, points + [ring.direction(parts, (2, 1, -1))]).relations()
            self.assertEqual(table, [(2, 1, -1, -1)])

    def test_high_powers(self):
        ring = Ring(Ground(1, 1, 2))
        points = [ring.direction([(0, 1)], [many]) for many in (900, 901, 600)]
        turning = Turning(Ground(1, 1, 2), points)
        for row in turning.relations():
            self.assertEqual(900 * row[0] + 901 * row[1] + 600 * row[2], 0)
        self.assertEqual(len(turning.relations()), 2)
        told = turning.made(Point(0, 1))
        self.assertEqual(900 * told[0] + 901 * told[1] + 600 * told[2], 1)

    def test_soon(self):
        draw = Draw(22)
        begun = time.monotonic()
        for ground in PLAIN:
            ring = Ring(ground)
            parts = [(3, 1), (2, 5), (-4, 3), (7, 2), (1, 5), (9, -4)]
            points = [ring.direction(parts, [draw.integer(80) for _ in parts]) for _ in range(6)]
            Turning(ground, points).made(points[0])
            Turning(ground, [draw.point(HUNDRED ** 3 - 1) for _ in range(6)]).made(draw.point(HUNDRED ** 3 - 1))
        self.assertLess(time.monotonic() - begun, 20)


class PlainTest(Base):

    def test_plain(self):
        for ground in PLAIN:
            self.assertEqual(Turning(ground, [Point(1, 0)]).points, (Point(1, 0),))

    def test_all_small_grounds(self):
        for a, b, c in itertools.product(range(1, 8), range(-9, 10), range(1, 8)):
            number = 4 * a * c - b * b
            if number <= 0:
                continue
            squares = [root for root in range(2, 20) if number % (root * root) == 0]
            fourth = [root for root in range(2, 20) if number // 4 % (root * root) == 0]
            plain = (number % 4 == 3 and not squares) or (number % 4 == 0 and number // 4 % 4 in (1, 2) and not fourth)
            if plain:
                Turning(Ground(a, b, c), [Point(1, 0)])
            else:
                with self.assertRaises(NotPlain):
                    Turning(Ground(a, b, c), [Point(1, 0)])

    def test_not_plain_ahead_of_flat(self):
        for ground in OTHERS:
            for points in ([Point(0, 0)], [Point(1, 0)], [Point(1, 0), Point(0, 0)]):
                with self.assertRaises(NotPlain):
                    Turning(ground, points)
        for ground in PLAIN:
            for points in ([Point(0, 0)], [Point(1, 0), Point(0, 0)], [Point(0, 0), Point(1, 2)]):
                with self.assertRaises(Flat):
                    Turning(ground, points)


if __name__ == "__main__":
    unittest.main()
