"""[7] to [12], [53]: lattices."""

import itertools
import math
import operator
import time
import unittest
from fractions import Fraction

from overfloors.errors import BadNumber, BadPoint, Flat, NotWithin
from overfloors.lattices import Lattice
from overfloors.points import Form, Point, cross
from overfloors.ratios import Ratio
from drawn import Draw, HUNDRED, Other, fraction, no_points, pair


def gcd_of_fractions(numbers):
    bottom = math.lcm(*[number.denominator for number in numbers])
    return Fraction(math.gcd(*[int(number * bottom) for number in numbers]), bottom)


def area(points):
    """The cell of the lattice of some points, told by the areas of all pairs of them."""
    told = [pair(point) for point in points]
    return gcd_of_fractions([p[0] * q[1] - p[1] * q[0] for p, q in itertools.combinations(told, 2)])


def belongs(point, points):
    """True if a point is in the lattice of others: it then leaves the cell as it is."""
    return area([*points, point]) == area(points)


class Base(unittest.TestCase):

    def assertTable(self, lattice, a, b, d):
        self.assertIs(type(lattice), Lattice)
        for told, expected in zip((lattice.a, lattice.b, lattice.d), (a, b, d)):
            self.assertIs(type(told), Ratio)
            self.assertEqual(fraction(told), Fraction(expected))

    def assertMadeOf(self, lattice, points):
        """The lattice is the one of these points, and its table is in the one right form."""
        self.assertIs(type(lattice), Lattice)
        for told in (lattice.a, lattice.b, lattice.d):
            self.assertIs(type(told), Ratio)
        a, b, d = fraction(lattice.a), fraction(lattice.b), fraction(lattice.d)
        self.assertGreater(a, 0)
        self.assertTrue(0 <= b < d)
        self.assertEqual(a * d, area(points))
        for row in (Point(lattice.a, lattice.b), Point(0, lattice.d)):
            self.assertTrue(belongs(row, points))

    def same(self, one, other):
        self.assertIs(one == other, True)
        self.assertIs(other == one, True)
        self.assertIs(one != other, False)
        self.assertTable(one, fraction(other.a), fraction(other.b), fraction(other.d))


def lattices(seed, many=12):
    draw = Draw(seed)
    found = [Lattice.square(1), Lattice([Point(2, 1), Point(0, 3)]), Lattice.oblong(Ratio(1, 2), 3)]
    found += [draw.whole_lattice(9) for _ in range(many // 2)]
    found += [draw.lattice(6) for _ in range(many // 2)]
    return found


def great_lattices(seed, many=4):
    draw = Draw(seed)
    return [draw.lattice(HUNDRED) for _ in range(many)]


class TableTest(Base):

    def test_examples(self):
        self.assertTable(Lattice([Point(2, 1), Point(1, 2), Point(0, Ratio(1, 2))]), 1, 0, Fraction(1, 2))
        self.assertTable(Lattice([Point(2, 1), Point(0, 3)]), 2, 1, 3)
        self.assertEqual(Lattice([Point(2, 1), Point(0, 3)]).cell, 6)

    def test_two_to_many_points(self):
        draw = Draw(1)
        for many in list(range(2, 10)) + [15, 40]:
            for size in (3, 30):
                for draw_one in (draw.point, draw.whole_point):
                    points = [draw_one(size) for _ in range(many)]
                    if area(points) != 0:
                        self.assertMadeOf(Lattice(points), points)

    def test_far_from_full(self):
        """Points of a lattice with a great cell: few of them, so that sums do not fill the plane."""
        draw = Draw(2)
        for many in range(2, 10):
            lattice = draw.lattice(500)
            points = [draw.member(lattice, 4) for _ in range(many)]
            if area(points) != 0:
                self.assertMadeOf(Lattice(points), points)

    def test_great_numbers(self):
        draw = Draw(3)
        for many in range(2, 7):
            points = [draw.point(HUNDRED) for _ in range(many)]
            self.assertMadeOf(Lattice(points), points)

    def test_zero_and_equal_points(self):
        draw = Draw(4)
        for _ in range(20):
            one, other = draw.point(9), draw.point(9)
            if cross(one, other):
                zero = Point(0, 0)
                expected = Lattice([one, other])
                self.assertMadeOf(expected, [one, other])
                for points in ([zero, one, other], [one, zero, other, zero], [one, one, other], [one, other, one, other],
                               [one, other, -one, one + other], [one * 3, other, one * 5, other * 7]):
                    self.same(Lattice(points), expected)

    def test_points_on_one_line(self):
        line = [Point(4, 2), Point(6, 3), Point(-10, -5)]
        self.assertMadeOf(Lattice([*line, Point(0, 7)]), [Point(2, 1), Point(0, 7)])
        self.assertMadeOf(Lattice([Point(0, 7), *line]), [Point(2, 1), Point(0, 7)])
        self.assertMadeOf(Lattice([Point(0, 6), Point(0, 4), Point(3, 1)]), [Point(0, 2), Point(3, 1)])
        self.assertMadeOf(Lattice([Point(6, 0), Point(4, 0), Point(1, -3)]), [Point(2, 0), Point(1, -3)])

    def test_order_of_points_plays_no_part(self):
        draw = Draw(5)
        points = [draw.point(12) for _ in range(2)] + [Point(0, 0), Point(0, 4), Point(3, 0)]
        expected = Lattice(points)
        for shuffled in itertools.permutations(points):
            self.same(Lattice(list(shuffled)), expected)

    def test_same_lattice_by_other_points(self):
        for lattice in lattices(6) + great_lattices(7):
            u, v = lattice.rows()
            for _ in range(6):
                u, v = v, u + v * 3
                self.same(Lattice([u, v]), lattice)
                self.same(Lattice([-v, u]), lattice)
                self.same(Lattice((u * 2, v, u * 3 - v)), lattice)

    def test_unlike_lattices(self):
        found = [
            Lattice.square(1), Lattice.square(2), Lattice.oblong(1, 2), Lattice.oblong(2, 1),
            Lattice([Point(1, 1), Point(0, 2)]), Lattice([Point(2, 1), Point(0, 2)]), Lattice([Point(1, 1), Point(0, 3)]),
        ]
        for one, other in itertools.combinations(found, 2):
            self.assertIs(one == other, False)
            self.assertIs(one != other, True)
        for value in (None, True, 0, 1, (1, 0, 1), [Point(1, 0), Point(0, 1)], Ratio(1), Point(1, 1), Other()):
            self.assertIs(found[0] == value, False)
            self.assertIs(value == found[0], False)

    def test_wrong_points(self):
        good = [Point(1, 0), Point(0, 1)]
        for value in no_points():
            for points in ([value], [value, *good], [good[0], value, "no", good[1]], [*good, value], (*good, value),
                           [Point(0, 0), value]):
                with self.assertRaises(BadPoint) as held:
                    Lattice(points)
                self.assertIs(held.exception.value, value)

    def test_flat(self):
        draw = Draw(8)
        point = draw.point(HUNDRED)
        for points in ([], (), [Point(0, 0)], [Point(1, 2)], [Point(0, 0), Point(0, 0)], [Point(1, 2), Point(1, 2)],
                       [Point(0, 1), Point(0, 5)], [Point(1, 0), Point(-3, 0)], [Point(1, 2), Point(-2, -4), Point(3, 6)],
                       [point, point * Ratio(-7, 3), Point(0, 0), point * 5]):
            with self.assertRaises(Flat):
                Lattice(points)

    def test_list_is_neither_kept_nor_changed(self):
        points = [Point(2, 1), Point(0, 3)]
        lattice = Lattice(points=points)
        self.assertEqual(points, [Point(2, 1), Point(0, 3)])
        points[0] = Point(1, 0)
        self.assertTable(lattice, 2, 1, 3)

    def test_square_and_oblong(self):
        self.assertTable(Lattice.square(2), 2, 0, 2)
        self.assertTable(Lattice.square(size=Ratio(-1, 3)), Fraction(1, 3), 0, Fraction(1, 3))
        self.assertTable(Lattice.oblong(2, 5), 2, 0, 5)
        self.assertTable(Lattice.oblong(height=Ratio(5, 3), width=-2), 2, 0, Fraction(5, 3))
        for size in (0, Ratio(0)):
            with self.assertRaises(Flat):
                Lattice.square(size)
            with self.assertRaises(Flat):
                Lattice.oblong(size, 1)
            with self.assertRaises(Flat):
                Lattice.oblong(1, size)

    def test_cell_and_rows(self):
        for lattice in lattices(9) + great_lattices(10):
            self.assertIs(type(lattice.cell), Ratio)
            self.assertEqual(lattice.cell, lattice.a * lattice.d)
            rows = lattice.rows()
            self.assertIs(type(rows), tuple)
            self.assertEqual(rows, (Point(lattice.a, lattice.b), Point(0, lattice.d)))


class MembersTest(Base):

    def test_rest(self):
        self.assertEqual(Lattice([Point(2, 1), Point(0, 3)]).rest(Point(5, 1)), Point(1, 2))
        draw = Draw(11)
        for lattice in lattices(12) + great_lattices(13):
            for size in (4, HUNDRED):
                point = draw.point(size)
                rest = lattice.rest(point)
                self.assertIs(type(rest), Point)
                self.assertTrue(0 <= rest.x < lattice.a)
                self.assertTrue(0 <= rest.y < lattice.d)
                self.assertTrue(belongs(point - rest, lattice.rows()))
                self.assertEqual(lattice.rest(point=point + draw.member(lattice, HUNDRED)), rest)
                self.assertEqual(lattice.rest(rest), rest)

    def test_rest_of_members_is_zero(self):
        draw = Draw(14)
        for lattice in lattices(15):
            self.assertEqual(lattice.rest(draw.member(lattice, 50)), Point(0, 0))
            first, second = lattice.rows()
            self.assertEqual(lattice.rest(first), Point(0, 0))
            self.assertEqual(lattice.rest(second), Point(0, 0))

    def test_rest_of_wrong_values(self):
        for value in no_points():
            with self.assertRaises(BadPoint) as held:
                Lattice.square(1).rest(value)
            self.assertIs(held.exception.value, value)

    def test_steps(self):
        draw = Draw(16)
        for lattice in lattices(17) + great_lattices(18):
            for point in (draw.point(9), draw.point(HUNDRED), draw.member(lattice, 9), Point(0, 0)):
                told = lattice.steps(point=point)
                self.assertIs(type(told), tuple)
                self.assertEqual([type(number) for number in told], [Ratio, Ratio])
                first, second = lattice.rows()
                self.assertEqual(first * told[0] + second * told[1], point)

    def test_members(self):
        draw = Draw(19)
        for lattice in lattices(20) + great_lattices(21):
            first, second = lattice.rows()
            for point in (Point(0, 0), first, second, first - second * 5, draw.member(lattice, HUNDRED)):
                self.assertIs(point in lattice, True)
            for point in (first * Ratio(1, 2), second * Ratio(2, 3), (first + second) * Ratio(1, 2),
                          first + Point(0, Ratio(1, 3) * lattice.d), first + Point(lattice.a * Ratio(1, 7), 0)):
                self.assertIs(point in lattice, False)
            for _ in range(10):
                point = draw.point(4)
                self.assertIs(point in lattice, belongs(point, lattice.rows()))

    def test_order(self):
        self.assertEqual(Lattice([Point(2, 1), Point(0, 3)]).order(Point(1, 0)), 6)
        draw = Draw(22)
        for lattice in lattices(23):
            for point in (draw.whole_point(9), draw.point(3), draw.member(lattice, 9) * Ratio(1, 12), Point(0, 0)):
                told = lattice.order(point)
                self.assertIs(type(told), int)
                self.assertTrue(belongs(point * told, lattice.rows()))
                for number in range(1, min(told, 60)):
                    self.assertFalse(belongs(point * number, lattice.rows()))

    def test_order_of_great_numbers(self):
        lattice = Lattice.oblong(HUNDRED, HUNDRED + 1)
        self.assertEqual(lattice.order(point=Point(1, 1)), HUNDRED * (HUNDRED + 1))
        self.assertEqual(lattice.order(Point(0, 0)), 1)
        self.assertEqual(lattice.order(Point(5, 0)), HUNDRED // 5)

    def test_tests(self):
        draw = Draw(24)
        for lattice in lattices(25) + great_lattices(26):
            tests = lattice.tests()
            self.assertIs(type(tests), tuple)
            self.assertEqual([type(form) for form in tests], [Form, Form])
            points = [draw.point(3) for _ in range(10)] + [draw.member(lattice, HUNDRED), Point(0, 0)]
            points += [draw.member(lattice, 9) * Ratio(1, number) for number in (2, 3, 6)]
            for point in points:
                told = all(form(point).whole() for form in tests)
                self.assertIs(told, belongs(point, lattice.rows()))

    def test_tests_are_just_sharp_enough(self):
        """The two forms together take all pairs of integers on the lattice."""
        for lattice in lattices(27):
            one, other = lattice.tests()
            self.assertEqual(abs(cross(Point(one.x, one.y), Point(other.x, other.y))) * lattice.cell, 1)


class DualTest(Base):

    def test_dual(self):
        for lattice in lattices(28) + great_lattices(29):
            dual = lattice.dual()
            self.assertIs(type(dual), Lattice)
            self.assertEqual(dual.cell * lattice.cell, 1)
            for one, other in itertools.product(lattice.rows(), dual.rows()):
                self.assertTrue((one.x * other.x + one.y * other.y).whole())
            self.same(dual.dual(), lattice)

    def test_dual_examples(self):
        self.assertTable(Lattice.square(1).dual(), 1, 0, 1)
        self.assertTable(Lattice.oblong(2, 3).dual(), Fraction(1, 2), 0, Fraction(1, 3))
        self.assertTable(Lattice([Point(1, 1), Point(0, 2)]).dual(), Fraction(1, 2), Fraction(1, 2), 1)

    def test_whole_forms(self):
        draw = Draw(30)
        for lattice in lattices(31):
            for _ in range(10):
                form = Form(draw.ratio(3), draw.ratio(3))
                whole = all(form(row).whole() for row in lattice.rows())
                self.assertIs(Point(form.x, form.y) in lattice.dual(), whole)
            for test in lattice.tests():
                self.assertIn(Point(test.x, test.y), lattice.dual())


class PairsTest(Base):

    def pairs(self, seed):
        found = list(itertools.product(lattices(seed, 6), lattices(seed + 1, 6)))
        found += itertools.product(great_lattices(seed + 2, 2), great_lattices(seed + 3, 2) + lattices(seed, 2))
        return found

    def test_examples(self):
        one, other = Lattice([Point(2, 1), Point(0, 3)]), Lattice.square(2)
        self.assertTable(one & other, 2, 4, 6)
        self.assertTable(one + other, 2, 0, 1)

    def test_sum(self):
        for one, other in self.pairs(40):
            self.assertMadeOf(one + other, [*one.rows(), *other.rows()])

    def test_common_part(self):
        for one, other in self.pairs(50):
            common = one & other
            self.assertIs(type(common), Lattice)
            for row in common.rows():
                self.assertTrue(belongs(row, one.rows()))
                self.assertTrue(belongs(row, other.rows()))
            joint = area([*one.rows(), *other.rows()])
            self.assertEqual(fraction(common.cell) * joint, fraction(one.cell) * fraction(other.cell))
            self.same(other & one, common)

    def test_common_part_point_by_point(self):
        draw = Draw(60)
        for _ in range(10):
            one, other = draw.whole_lattice(4), draw.whole_lattice(4)
            common = one & other
            for x, y in itertools.product(range(-6, 7), repeat=2):
                point = Point(x, y)
                self.assertIs(point in common, point in one and point in other)

    def test_one_holds_the_other(self):
        for lattice in lattices(61):
            for number in (2, 3, Ratio(4)):
                self.same(lattice & lattice * number, lattice * number)
                self.same(lattice + lattice * number, lattice)
            self.same(lattice & lattice, lattice)
            self.same(lattice + lattice, lattice)

    def test_within(self):
        for one, other in self.pairs(70):
            expected = all(belongs(row, other.rows()) for row in one.rows())
            self.assertIs(one <= other, expected)
            self.assertIs(one & other <= one, True)
            self.assertIs(one <= one + other, True)
        self.assertIs(Lattice.square(2) <= Lattice.square(1), True)
        self.assertIs(Lattice.square(1) <= Lattice.square(2), False)
        self.assertIs(Lattice.square(1) <= Lattice.square(1), True)
        self.assertIs(Lattice.oblong(2, 1) <= Lattice.oblong(1, 2), False)
        self.assertIs(Lattice.square(1) >= Lattice.square(2), True)

    def test_index_of(self):
        for one, other in self.pairs(80):
            common, joint = one & other, one + other
            for lower, upper in ((common, one), (common, other), (one, joint), (other, joint), (common, joint)):
                told = upper.index_of(lower)
                self.assertIs(type(told), int)
                self.assertEqual(told * upper.cell, lower.cell)
            if not other <= one:
                with self.assertRaises(NotWithin):
                    one.index_of(other)

    def test_index_by_counting(self):
        draw = Draw(90)
        for _ in range(10):
            lattice = draw.whole_lattice(5)
            rests = {pair(lattice.rest(Point(x, y))) for x in range(60) for y in range(60)}
            self.assertEqual(Lattice.square(1).index_of(other=lattice), len(rests))

    def test_index_of_itself_and_of_a_wider_one(self):
        for lattice in lattices(91):
            self.assertEqual(lattice.index_of(lattice), 1)
            self.assertEqual(lattice.index_of(5 * lattice), 25)
            with self.assertRaises(NotWithin):
                (lattice * 2).index_of(lattice)

    def test_wrong_operands(self):
        for sign in (operator.and_, operator.add, operator.le):
            for value in (None, 1, "a", Point(1, 2)):
                with self.assertRaises(TypeError):
                    sign(Lattice.square(1), value)


class MultiplesTest(Base):

    def test_multiples(self):
        draw = Draw(92)
        for lattice in lattices(93) + great_lattices(94, 2):
            for number in (1, -1, 2, -3, Ratio(2, 3), Ratio(-5, 4), HUNDRED, draw.ratio(HUNDRED)):
                expected = [row * number for row in lattice.rows()]
                self.assertMadeOf(lattice * number, expected)
                self.same(number * lattice, lattice * number)
                self.same(lattice * -number, lattice * number)
            self.same(lattice * -1, lattice)

    def test_multiples_by_zero(self):
        for zero in (0, Ratio(0)):
            for given in ((Lattice.square(1), zero), (zero, Lattice.square(1))):
                with self.assertRaises(BadNumber) as held:
                    operator.mul(*given)
                self.assertIs(held.exception.value, zero)

    def test_wrong_factors(self):
        for value in (None, True, False, "a", Point(1, 2), Lattice.square(1)):
            with self.assertRaises(TypeError):
                Lattice.square(1) * value

    def test_operators_change_nothing(self):
        one, other = Lattice([Point(2, 1), Point(0, 3)]), Lattice.square(2)
        results = [one & other, one + other, one * 5, one <= other, one == other, one.dual(), Point(1, 1) in one]
        self.assertEqual(len(results), 7)
        self.assertTable(one, 2, 1, 3)
        self.assertTable(other, 2, 0, 2)


class Moving:
    """Stands for a motion: it has the table and the shift of one."""

    def __init__(self, a, b, c, d, shift=None):
        self.table = (Ratio(a), Ratio(b)), (Ratio(c), Ratio(d))
        self.shift = shift


class MovedTest(Base):

    def test_moved(self):
        draw = Draw(95)
        for lattice in lattices(96) + great_lattices(97, 2):
            for a, b, c, d in ((0, -1, 1, 0), (1, 0, 0, -1), (2, 0, 0, 3), (1, 1, 0, 1), (-1, 5, 2, -3)):
                motion = Moving(a, b, c, d, draw.point(5))
                images = [Point(row.x * a + row.y * b, row.x * c + row.y * d) for row in lattice.rows()]
                self.assertMadeOf(lattice.moved(motion), images)
                self.same(lattice.moved(motion=motion), lattice.moved(Moving(a, b, c, d)))

    def test_moved_by_ratios(self):
        motion = Moving(1, 0, 0, 1)
        motion.table = (Ratio(3, 5), Ratio(-4, 5)), (Ratio(4, 5), Ratio(3, 5))
        image = Lattice.square(1).moved(motion)
        self.assertEqual(image.cell, 1)
        self.same(image & Lattice.square(1), Lattice([Point(2, 1), Point(-1, 2)]))
        images = [Point(Ratio(3, 5), Ratio(4, 5)), Point(Ratio(-4, 5), Ratio(3, 5))]
        self.assertMadeOf(image, images)

    def test_rows_and_columns_of_the_table(self):
        self.assertTable(Lattice.oblong(1, 5).moved(Moving(0, 1, 2, 0)), 5, 0, 2)
        self.assertTable(Lattice.square(1).moved(Moving(1, 0, 3, 4)), 1, 3, 4)


class LimitsTest(Base):
    """[80]: the numbers and lengths that callers keep to."""

    def test_forty_points_with_long_numbers(self):
        draw = Draw(98)
        size = 10 ** 120 - 1
        begun = time.monotonic()
        points = [draw.point(size) for _ in range(40)]
        lattice = Lattice(points)
        for point in points:
            self.assertIn(point, lattice)
        slant = Point(draw.integer(size), 1)
        line = [slant * draw.ratio(size) for _ in range(39)]
        narrow = Lattice([*line, Point(1, 0)])
        for point in line:
            self.assertIn(point, narrow)
        self.assertLess(time.monotonic() - begun, 20)

    def test_three_hundred_figures(self):
        draw = Draw(99)
        size = 10 ** 300 - 1
        begun = time.monotonic()
        one, other = draw.lattice(size), draw.lattice(size)
        common, joint = one & other, one + other
        self.assertEqual(common.cell * joint.cell, one.cell * other.cell)
        self.assertEqual(one.index_of(common) * joint.cell, other.cell)
        point = draw.point(size)
        self.assertIn(point - common.rest(point), common)
        self.assertIn(point * one.order(point), one)
        self.same(common.dual().dual(), common)
        self.assertLess(time.monotonic() - begun, 20)


if __name__ == "__main__":
    unittest.main()
