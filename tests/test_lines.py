"""[13], [54]: common lines."""

import itertools
import time
import unittest

from overfloors.lattices import Lattice
from overfloors.lines import Lines, fits, lines_of, split
from overfloors.points import Point, cross
from overfloors.ratios import Ratio
from drawn import Draw, HUNDRED

SLANTED = Lattice([Point(2, 1), Point(0, 3)])


def pairs():
    """Pairs of lattices: drawn ones, equal ones, ones within one another, and great ones."""
    draw = Draw(1)
    found = [(draw.whole_lattice(12), draw.whole_lattice(12)) for _ in range(40)]
    found += [(draw.lattice(8), draw.lattice(8)) for _ in range(40)]
    found += [(draw.lattice(HUNDRED), draw.lattice(HUNDRED)) for _ in range(4)]
    few = [Lattice.square(1), SLANTED, Lattice.oblong(4, 6), Lattice.oblong(Ratio(1, 6), 6), draw.lattice(5)]
    found += list(itertools.product(few, repeat=2))
    found += [(lattice, lattice * number) for lattice in few for number in (2, Ratio(3, 4), 1, HUNDRED)]
    # Products of the primes of one number, which share some of them with the others.
    found += [(Lattice.square(1), Lattice([Point(p * 30, q * 30), Point(0, r * 30)]))
              for p, q, r in itertools.product((1, 2, 12, 45, 360), repeat=3)]
    return found


class LinesTest(unittest.TestCase):

    def test_attributes(self):
        u, v = Point(1, 2), Point(3, 4)
        lines = Lines(u, v, 2, Ratio(4, 3))
        self.assertEqual((lines.u, lines.v), (u, v))
        for told, expected in ((lines.r, Ratio(2)), (lines.s, Ratio(4, 3))):
            self.assertIs(type(told), Ratio)
            self.assertEqual(told, expected)
        lines = Lines(s=3, r=Ratio(1, 2), v=v, u=u)
        self.assertEqual((lines.u, lines.v, lines.r, lines.s), (u, v, Ratio(1, 2), Ratio(3)))
        self.assertIs(type(lines.s), Ratio)

    def test_equal_only_to_themselves(self):
        one, other = lines_of(SLANTED, SLANTED), lines_of(SLANTED, SLANTED)
        self.assertTrue(one == one)
        self.assertFalse(one == other)

    def test_lattices(self):
        lines = Lines(Point(1, 0), Point(0, 1), Ratio(2, 3), 4)
        told = lines.lattices()
        self.assertIs(type(told), tuple)
        self.assertEqual(told, (Lattice.square(1), Lattice.oblong(Ratio(2, 3), 4)))
        self.assertEqual(lines.common(), Lattice.oblong(2, 4))
        self.assertEqual(lines.joint(), Lattice.oblong(Ratio(1, 3), 1))


class LinesOfTest(unittest.TestCase):

    def test_examples(self):
        lines = lines_of(Lattice.square(1), SLANTED)
        self.assertEqual((lines.r, lines.s), (Ratio(1), Ratio(6)))
        lines = lines_of(one=SLANTED, other=Lattice.square(1))
        self.assertEqual((lines.r, lines.s), (Ratio(1, 6), Ratio(1)))

    def test_make_both(self):
        for one, other in pairs():
            lines = lines_of(one, other)
            self.assertIs(type(lines), Lines)
            self.assertEqual([type(point) for point in (lines.u, lines.v)], [Point, Point])
            self.assertEqual([type(number) for number in (lines.r, lines.s)], [Ratio, Ratio])
            self.assertEqual(Lattice([lines.u, lines.v]), one)
            self.assertEqual(Lattice([lines.u * lines.r, lines.v * lines.s]), other)
            self.assertEqual(lines.lattices(), (one, other))
            self.assertTrue(lines.r > 0 and lines.s > 0)
            self.assertTrue(lines.s.over(lines.r).whole())
            self.assertEqual(lines.r * lines.s * one.cell, other.cell)

    def test_common_and_joint(self):
        for one, other in pairs():
            lines = lines_of(one, other)
            self.assertEqual(lines.common(), one & other)
            self.assertEqual(lines.joint(), one + other)

    def test_ratios_by_the_lattices_alone(self):
        """r and s of two lattices do not depend on which is turned, and change places when undone."""
        for one, other in pairs():
            lines, back = lines_of(one, other), lines_of(other, one)
            self.assertEqual((lines.r * back.s, lines.s * back.r), (Ratio(1), Ratio(1)))

    def test_equal_calls(self):
        for one, other in pairs()[:20]:
            first, second = lines_of(one, other), lines_of(one, other)
            self.assertEqual((first.u, first.v, first.r, first.s), (second.u, second.v, second.r, second.s))


class FitsTest(unittest.TestCase):

    def test_common_lines_fit(self):
        for one, other in pairs():
            lines = lines_of(one, other)
            self.assertIs(fits(lines, one, other), True)
            self.assertIs(fits(other=other, one=one, lines=lines), True)

    def test_other_common_lines_fit(self):
        for one, other in pairs():
            lines = lines_of(one, other)
            many = lines.s.over(lines.r)
            turned = Lines(lines.u + lines.v * many, -lines.v, lines.r, lines.s)
            self.assertIs(fits(turned, one, other), True)
            # v is free by any multiple of u, u only by what s / r allows.
            self.assertIs(fits(Lines(lines.u, lines.v + lines.u, lines.r, lines.s), one, other), True)
            slanted = Lines(lines.u + lines.v, lines.v, lines.r, lines.s)
            self.assertIs(fits(slanted, one, other), many == 1)

    def test_lattices_in_this_order(self):
        for one, other in pairs():
            self.assertIs(fits(lines_of(one, other), other, one), one == other)

    def test_spoiled_points(self):
        for one, other in pairs():
            lines = lines_of(one, other)
            u, v, r, s = lines.u, lines.v, lines.r, lines.s
            zero = Point(0, 0)
            for first, second in ((zero, v), (u, zero), (zero, zero), (v, v), (u, u), (u * 2, v), (u, v * 3), (v * 5, v),
                                  (u * Ratio(1, 2), v), (u, v * Ratio(1, 3)), (u + v * Ratio(1, 2), v)):
                self.assertIs(fits(Lines(first, second, r, s), one, other), False)
            self.assertIs(fits(Lines(v, u, r, s), one, other), r == s)

    def test_spoiled_ratios(self):
        for one, other in pairs():
            lines = lines_of(one, other)
            u, v, r, s = lines.u, lines.v, lines.r, lines.s
            for first, second in ((-r, s), (r, -s), (-r, -s), (0, s), (r, 0), (0, 0), (r * 2, s), (r, s * 2),
                                  (r * Ratio(1, 2), s), (r, s * Ratio(1, 2)), (r * 2, s * Ratio(1, 2))):
                self.assertIs(fits(Lines(u, v, first, second), one, other), False)
            self.assertIs(fits(Lines(v, u, s, r), one, other), r == s)

    def test_quotient_that_is_not_whole(self):
        one, other = Lattice.square(1), Lattice.oblong(2, 3)
        self.assertIs(fits(Lines(Point(1, 0), Point(0, 1), 2, 3), one, other), False)
        self.assertEqual(Lines(Point(1, 0), Point(0, 1), 2, 3).lattices(), (one, other))


class SplitTest(unittest.TestCase):

    def check(self, point, one, other):
        told = split(point, one, other)
        self.assertIs(type(told), tuple)
        self.assertEqual([type(part) for part in told], [Point, Point])
        self.assertIn(told[0], one)
        self.assertIn(told[1], other)
        self.assertEqual(told[0] + told[1], point)

    def test_sums(self):
        draw = Draw(2)
        for one, other in pairs():
            self.check(draw.member(one, 9) + draw.member(other, 9), one, other)
            self.check(draw.member(one, HUNDRED) - draw.member(other, HUNDRED), one, other)
            self.check(Point(0, 0), one, other)

    def test_all_points_of_the_sum(self):
        draw = Draw(3)
        for one, other in pairs():
            joint = one + other
            for row in joint.rows():
                self.check(row, one, other)
            self.check(draw.member(joint, HUNDRED), one, other)

    def test_no_sums(self):
        draw = Draw(4)
        for one, other in pairs():
            joint = one + other
            first, second = joint.rows()
            for point in (first * Ratio(1, 2), second * Ratio(1, 3), (first + second) * Ratio(1, 2),
                          draw.member(joint, HUNDRED) + second * Ratio(2, 5)):
                self.assertIsNone(split(point, one, other))
            point = draw.point(5)
            if point in joint:
                self.check(point, one, other)
            else:
                self.assertIsNone(split(other=other, one=one, point=point))

    def test_example(self):
        self.check(Point(1, 0), Lattice.oblong(2, 1), Lattice.oblong(3, 1))
        self.assertIsNone(split(Point(1, 0), Lattice.oblong(2, 1), Lattice.oblong(4, 1)))


class LimitsTest(unittest.TestCase):
    """[80]: the numbers that callers keep to."""

    def test_three_hundred_figures(self):
        draw = Draw(5)
        size = 10 ** 300 - 1
        begun = time.monotonic()
        one, other = draw.lattice(size), draw.lattice(size)
        lines = lines_of(one, other)
        self.assertTrue(fits(lines, one, other))
        point = draw.member(one, size) + draw.member(other, size)
        first, second = split(point, one, other)
        self.assertTrue(first in one and second in other and first + second == point)
        self.assertLess(time.monotonic() - begun, 20)

    def test_one_prime_very_often(self):
        begun = time.monotonic()
        one = Lattice.oblong(2 ** 990, 2 ** 3)
        other = Lattice([Point(1, 2), Point(0, Ratio(1, 2 ** 900))])
        for first, second in ((one, other), (other, one)):
            lines = lines_of(first, second)
            self.assertTrue(fits(lines, first, second))
            self.assertTrue(cross(lines.u, lines.v))
        self.assertLess(time.monotonic() - begun, 20)


if __name__ == "__main__":
    unittest.main()
