"""[2], [28], [29], [60]: mirrors, turns, their directions and indices."""

import itertools
import math
import time
import unittest
from fractions import Fraction

from overfloors.errors import BadNumber, Flat, TooMany
from overfloors.grounds import Ground
from overfloors.lattices import Lattice
from overfloors.motions import Motion, indices, shifting, stretching
from overfloors.points import Point
from overfloors.ratios import Ratio
from overfloors.turns import direction, indices_to, mirror, turn, turn_index, turns_of
from drawn import Draw, HUNDRED, fraction, no_counts, pair

S, T = Ground(1, 0, 1), Ground(1, 1, 1)
Z = Lattice.square(1)
GROUNDS = [S, T, Ground(1, 1, 6), Ground(2, 0, 2), Ground(1, 0, 2), Ground(3, -2, 5), Ground(2, 1, 3), Ground(6, 6, 6),
           Ground(1, -1, 1), Ground(4, 2, 5), Ground(1, 0, 3), Ground(100, -99, 97)]
STILL = Motion([[1, 0], [0, 1]])


def directions(draw):
    told = [Point(x, y) for x, y in ((1, 0), (-3, 0), (0, 1), (0, -2), (1, 1), (2, 1), (-1, 2), (3, -1), (-5, -7), (4, 6))]
    return told + [draw.point(9), draw.point(HUNDRED), draw.whole_point(10 ** 30)]


def whole_directions(size):
    """All whole directions without common divisor with figures up to a size."""
    return [(1, 0)] + [(x, y) for x in range(-size, size + 1) for y in range(1, size + 1) if math.gcd(x, y) == 1]


def mirror_table(ground, x, y):
    """The table of a mirror, by [28] and Python's fractions."""
    a, b, c = ground.a, ground.b, ground.c
    measure = a * x * x + b * x * y + c * y * y
    first, second = Fraction(2 * a * x + b * y, measure), Fraction(b * x + 2 * c * y, measure)
    return (first * x - 1, second * x), (first * y, second * y - 1)


def turn_table(ground, x, y):
    """The table of a turn: the mirror in (1, 0) first."""
    ((a, b), (c, d)), ((e, f), (g, h)) = mirror_table(ground, x, y), mirror_table(ground, 1, 0)
    return (a * e + b * g, a * f + b * h), (c * e + d * g, c * f + d * h)


def index_of(table):
    """[29]: the least common bottom of the numbers that tell the motion in a base of the whole floor."""
    return math.lcm(*[number.denominator for row in table for number in row])


def fractions(motion):
    return tuple(tuple(fraction(number) for number in row) for row in motion.table)


def reach(ground, index):
    """Figures that no direction of a turn with an index up to this one exceeds."""
    across = 4 * ground.a * ground.c - ground.b * ground.b
    n = 2 * math.isqrt(index) + 1
    return max(ground.a * n, math.isqrt(index * across) + 1 + abs(ground.b) * n)


def searched(ground, most):
    """A dict from each index up to most to the directions of its turns, in their order."""
    found = {}
    for x, y in whole_directions(reach(ground, most)):
        index = index_of(turn_table(ground, x, y))
        if index <= most:
            found.setdefault(index, []).append((x, y))
    # The cotangent falls as the line turns.
    return {index: sorted(told, key=lambda one: (one[1] > 0, Fraction(-one[0], one[1]) if one[1] else 0))
            for index, told in found.items()}


def figures(points):
    return [pair(point) for point in points]


class MirrorTest(unittest.TestCase):

    def test_tables(self):
        draw = Draw(1)
        for ground in GROUNDS:
            for x, y in whole_directions(4) + [(10 ** 30 + 1, -3)]:
                point = Point(x, y)
                for motion, table in ((mirror(ground, point), mirror_table(ground, x, y)),
                                      (turn(ground, point), turn_table(ground, x, y))):
                    self.assertIs(type(motion), Motion)
                    self.assertEqual(fractions(motion), table)
                    self.assertEqual(motion.shift, Point(0, 0))
            point = draw.point(9)
            self.assertEqual(mirror(point=point, ground=ground), mirror(ground, point))
            self.assertEqual(turn(point=point, ground=ground), turn(ground, point))

    def test_example(self):
        self.assertEqual(turn(S, Point(2, 1)), Motion([[Ratio(3, 5), Ratio(-4, 5)], [Ratio(4, 5), Ratio(3, 5)]]))

    def test_lengths(self):
        draw = Draw(2)
        for ground in GROUNDS:
            for point in directions(draw):
                there, around = mirror(ground, point), turn(ground, point)
                self.assertEqual((there.factor(), around.factor()), (-1, 1))
                self.assertEqual((there.stretch(ground), around.stretch(ground)), (1, 1))
                one, other = draw.point(9), draw.point(5)
                for motion in (there, around):
                    self.assertEqual(ground.measure(motion(one) - motion(other)), ground.measure(one - other))
                self.assertEqual(there * there, STILL)
                self.assertEqual(there(point), point)
                across = one - point * ground.pair(point, one).over(2 * ground.measure(point))
                self.assertEqual(ground.pair(across, point), 0)
                self.assertEqual(there(across), -across)

    def test_turn_of_the_first_direction(self):
        """[28]: the turn takes (1, 0) to its image in the mirror, at the double angle."""
        draw = Draw(3)
        for ground in GROUNDS:
            for point in directions(draw):
                around = turn(ground, point)
                self.assertEqual(around, mirror(ground, point) * mirror(ground, Point(1, 0)))
                self.assertEqual(around(Point(1, 0)), mirror(ground, point)(Point(1, 0)))
            self.assertEqual(turn(ground, Point(5, 0)), STILL)
        self.assertEqual(turn(S, Point(1, 1)), Motion([[0, -1], [1, 0]]))
        self.assertEqual(turn(T, Point(1, 1)), Motion([[0, -1], [1, 1]]))
        self.assertEqual(turn(S, Point(0, 3)), stretching(-1))

    def test_multiples(self):
        draw = Draw(4)
        for ground in GROUNDS[:6]:
            for point in directions(draw):
                for number in (-1, 2, Ratio(-3, 7), Ratio(1, HUNDRED), -HUNDRED):
                    self.assertEqual(mirror(ground, point * number), mirror(ground, point))
                    self.assertEqual(turn(ground, point * number), turn(ground, point))
                    self.assertEqual(turn_index(ground, point * number), turn_index(ground, point))

    def test_multiples_of_the_ground(self):
        for ground, other in ((S, Ground(2, 0, 2)), (T, Ground(6, 6, 6)), (Ground(2, 1, 3), Ground(14, 7, 21))):
            for x, y in whole_directions(4):
                point = Point(x, y)
                self.assertEqual(turn(ground, point), turn(other, point))
                self.assertEqual(mirror(ground, point), mirror(other, point))
                self.assertEqual(turn_index(ground, point), turn_index(other, point))
            self.assertEqual(indices_to(ground, 60), indices_to(other, 60))
            self.assertEqual(figures(turns_of(ground, 1)), figures(turns_of(other, 1)))

    def test_flat(self):
        for ground in GROUNDS:
            for call in (mirror, turn, turn_index):
                with self.assertRaises(Flat):
                    call(ground, Point(0, 0))


class DirectionTest(unittest.TestCase):

    def test_example(self):
        self.assertEqual(direction(T, mirror(T, Point(-4, -2))), Point(2, 1))
        self.assertIsNone(direction(S, stretching(2)))
        self.assertEqual(direction(S, Motion([[0, -1], [1, 0]])), Point(1, 1))

    def test_mirrors_and_turns(self):
        draw = Draw(10)
        for ground in GROUNDS:
            for x, y in whole_directions(4) + [(10 ** 120, 1), (-10 ** 120, 7)]:
                point = Point(x, y)
                for number in (1, -2, Ratio(-5, 3)):
                    for motion in (mirror(ground, point * number), turn(ground, point * number)):
                        told = direction(motion=motion, ground=ground)
                        self.assertIs(type(told), Point)
                        self.assertEqual(told, point)
                        self.assertEqual(direction(ground, shifting(draw.point(9)) * motion), point)
                        self.assertEqual(direction(ground, motion * shifting(draw.point(HUNDRED))), point)

    def test_undone_and_powers(self):
        for ground in GROUNDS[:6]:
            for x, y in whole_directions(3):
                motion = turn(ground, Point(x, y))
                for other in (~motion, motion * motion, motion.power(-3)):
                    told = direction(ground, other)
                    self.assertEqual(turn(ground, told), other)
        for x, y in ((1, 0), (3, 1)):
            self.assertEqual(direction(S, shifting(Point(x, y))), Point(1, 0))

    def test_each_motion_is_one_of_them(self):
        """Motions that keep lengths, not told by a direction but as products of mirrors with shifts."""
        draw = Draw(11)
        for ground in GROUNDS:
            motion = STILL
            for _ in range(4):
                motion = motion * shifting(draw.point(5)) * mirror(ground, draw.point(4) + Point(1, 9))
                told = direction(ground, motion)
                again = turn if motion.factor() == 1 else mirror
                self.assertEqual(again(ground, told), motion.straight())
                x, y = told.x, told.y
                self.assertTrue(x.whole() and y.whole() and math.gcd(x.top, y.top) == 1)
                self.assertTrue(y > 0 or (x, y) == (1, 0))

    def test_no_lengths(self):
        for motion in (stretching(2), stretching(Ratio(1, 2)), Motion([[1, 1], [0, 1]]), Motion([[2, 0], [0, Ratio(1, 2)]]),
                       Motion([[0, -1], [1, 1]]), mirror(T, Point(2, 1)), turn(Ground(1, 0, 2), Point(1, 1)),
                       turn(S, Point(2, 1)) * stretching(3), Motion([[3, 0], [0, 3]], Point(1, 2))):
            self.assertIs(direction(S, motion), None)
        self.assertIs(direction(Ground(2, 0, 2), stretching(2)), None)
        self.assertEqual(direction(T, Motion([[0, -1], [1, 1]])), Point(1, 1))


class IndexTest(unittest.TestCase):

    def test_example(self):
        self.assertEqual((turn_index(S, Point(2, 1)), turn_index(S, Point(3, 1))), (5, 5))
        self.assertEqual(figures(turns_of(S, 1)), [(1, 0), (1, 1), (0, 1), (-1, 1)])
        told = figures(turns_of(S, 5))
        self.assertEqual((len(told), told[:2]), (8, [(3, 1), (2, 1)]))
        self.assertEqual(indices_to(S, 30), [1, 5, 13, 17, 25, 29])
        self.assertEqual(indices_to(Ground(1, 1, 6), 30), [1, 6, 8, 12, 18, 26, 27])

    def test_turn_index(self):
        """Against the indices of the common part with the whole floor."""
        draw = Draw(20)
        for ground in GROUNDS:
            for x, y in whole_directions(7):
                index = turn_index(ground, Point(x, y))
                self.assertIs(type(index), int)
                self.assertEqual(index, index_of(turn_table(ground, x, y)))
            for point in directions(draw):
                index = turn_index(point=point, ground=ground)
                self.assertEqual((index, index), indices(Z, turn(ground, point)))

    def test_big_figures(self):
        draw = Draw(21)
        for ground in GROUNDS:
            for size in (10 ** 120, 10 ** 300 - 1):
                point = draw.point(size)
                self.assertEqual(turn_index(ground, point), indices(Z, turn(ground, point))[0])

    def test_turns_of(self):
        for ground in (S, T, Ground(1, 1, 6), Ground(2, 0, 2), Ground(3, -2, 5), Ground(2, 1, 3), Ground(4, 2, 5), Ground(5, 0, 2),
                       Ground(2, 2, 5)):
            most = 30
            expected = searched(ground, most)
            for index in range(1, most + 1):
                told = turns_of(ground, index)
                self.assertIs(type(told), list)
                self.assertEqual([type(point) for point in told], [Point] * len(told))
                self.assertEqual(figures(told), expected.get(index, []))
            self.assertEqual(indices_to(ground, most), sorted(expected))

    def test_own_turns(self):
        for ground in GROUNDS:
            many = len(turns_of(ground, 1))
            squares = ground in (S, Ground(2, 0, 2))
            triangles = ground in (T, Ground(6, 6, 6), Ground(1, -1, 1))
            self.assertEqual(many, 4 if squares else 6 if triangles else 2)
            for point in turns_of(ground, 1):
                motion = turn(ground, point)
                self.assertEqual(Z.moved(motion), Z)
                self.assertIn(motion.order(), (1, 2, 3, 4, 6))

    def test_greatest_indices(self):
        for index in (9425, 9985, 10000, 9999):
            told = turns_of(S, index)
            for point in told:
                self.assertEqual(turn_index(S, point), index)
            primes = [prime for prime in range(2, index + 1) if index % prime == 0 and all(prime % one for one in range(2, prime))]
            good = all(prime % 4 == 1 for prime in primes)
            self.assertEqual(len(told), 4 * 2 ** len(primes) if good else 0)

    def test_most(self):
        self.assertEqual(len(turns_of(S, 5, most=8)), 8)
        for most in (7, 1, 0):
            with self.assertRaises(TooMany) as held:
                turns_of(S, 5, most=most)
            self.assertEqual(held.exception.most, most)
        self.assertEqual(turns_of(S, 3, most=0), [])
        self.assertEqual(len(turns_of(most=8, index=5, ground=S)), 8)
        with self.assertRaises(TypeError):
            turns_of(S, 5, 8)

    def test_wrong_indices(self):
        for value in no_counts() + [10001, HUNDRED, S]:
            for call in (lambda: turns_of(S, value), lambda: turns_of(S, value, most=0), lambda: turns_of(index=value, ground=T)):
                with self.assertRaises(BadNumber) as held:
                    call()
                self.assertIs(held.exception.value, value)

    def test_wrong_bounds(self):
        for value in no_counts() + [201, 500, HUNDRED, S]:
            with self.assertRaises(BadNumber) as held:
                indices_to(S, value)
            self.assertIs(held.exception.value, value)
        self.assertEqual(indices_to(S, 1), [1])
        self.assertEqual(indices_to(most=5, ground=S), [1, 5])

    def test_indices_to(self):
        for ground in GROUNDS:
            told = indices_to(ground, 200)
            self.assertEqual([type(index) for index in told], [int] * len(told))
            self.assertEqual(told, [index for index in range(1, 201) if turns_of(ground, index)])
            for most in (1, 2, 30, 199):
                self.assertEqual(indices_to(ground, most), [index for index in told if index <= most])

    def test_squares_and_triangles(self):
        """[29]: products of primes with the rest 1 by 4, by 6."""
        for ground, modulus in ((S, 4), (T, 6)):
            expected = []
            for index in range(1, 201):
                primes = [prime for prime in range(2, index + 1) if index % prime == 0 and all(prime % one for one in range(2, prime))]
                if all(prime % modulus == 1 for prime in primes):
                    expected.append(index)
            self.assertEqual(indices_to(ground, 200), expected)

    def test_soon(self):
        begun = time.monotonic()
        for ground in (Ground(100, 100, 97), Ground(77, 0, 90), Ground(100, 0, 100), Ground(83, 0, 91), Ground(1, 0, 100)):
            indices_to(ground, 200)
            for index in (10000, 9240, 7560):
                turns_of(ground, index)
        self.assertLess(time.monotonic() - begun, 20)

    def test_new_lists(self):
        for call in (lambda: turns_of(S, 5), lambda: indices_to(S, 30)):
            first = call()
            first.append(None)
            self.assertEqual(len(call()), len(first) - 1)

    def test_sum_of_mirrors(self):
        """Each two figures of [29] with a mirror: its index against the whole floor."""
        for ground, (x, y) in itertools.product(GROUNDS, whole_directions(4)):
            a, b, c = ground.a, ground.b, ground.c
            measure = a * x * x + b * x * y + c * y * y
            expected = measure // math.gcd(measure, 2 * a * x + b * y, b * x + 2 * c * y)
            self.assertEqual(indices(Z, mirror(ground, Point(x, y))), (expected, expected))


if __name__ == "__main__":
    unittest.main()
