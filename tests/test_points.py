"""[5], [6], [52]: points and forms."""

import itertools
import operator
import unittest
from fractions import Fraction

from overfloors.errors import BadNumber
from overfloors.points import Form, Point, ascending_points, cross, value_at
from overfloors.ratios import Ratio
from drawn import Draw, HUNDRED, fraction, no_integers, pair


def coordinates(seed):
    draw = Draw(seed)
    found = [(0, 0), (1, 0), (0, -1), (Ratio(1, 2), 3), (Ratio(-5, 3), Ratio(7, 4))]
    found += [(draw.ratio(20), draw.ratio(20)) for _ in range(6)]
    return found + [(draw.ratio(HUNDRED), draw.integer(HUNDRED)) for _ in range(4)]


class BothTest(unittest.TestCase):

    def assertTold(self, value, made, x, y):
        self.assertIs(type(value), made)
        for told, expected in ((value.x, Fraction(x)), (value.y, Fraction(y))):
            self.assertIs(type(told), Ratio)
            self.assertEqual((told.top, told.bottom), (expected.numerator, expected.denominator))

    def test_making(self):
        for made in (Point, Form):
            for x, y in coordinates(1):
                self.assertTold(made(x, y), made, fraction(x), fraction(y))
                self.assertTold(made(y=y, x=x), made, fraction(x), fraction(y))

    def test_wrong_coordinates(self):
        for made in (Point, Form):
            for value in no_integers():
                for given in ((value, 1), (1, value), (value, "no"), (Ratio(1, 2), value)):
                    with self.assertRaises(BadNumber) as held:
                        made(*given)
                    self.assertIs(held.exception.value, value)
                with self.assertRaises(BadNumber) as held:
                    made(y=None, x=value)
                self.assertIs(held.exception.value, value)

    def test_sums_and_differences(self):
        for made in (Point, Form):
            for (x, y), (p, q) in itertools.product(coordinates(2), coordinates(3)):
                one, other = made(x, y), made(p, q)
                x, y, p, q = [fraction(number) for number in (x, y, p, q)]
                self.assertTold(one + other, made, x + p, y + q)
                self.assertTold(one - other, made, x - p, y - q)
                self.assertTold(-one, made, -x, -y)
                self.assertTold(one, made, x, y)
                self.assertTold(other, made, p, q)

    def test_multiples_from_both_sides(self):
        for made in (Point, Form):
            for (x, y), (k, _) in itertools.product(coordinates(4), coordinates(5)):
                one = made(x, y)
                x, y, factor = [fraction(number) for number in (x, y, k)]
                self.assertTold(one * k, made, x * factor, y * factor)
                self.assertTold(k * one, made, x * factor, y * factor)

    def test_equality(self):
        for made in (Point, Form):
            for (x, y), (p, q) in itertools.product(coordinates(6), repeat=2):
                same = (fraction(x), fraction(y)) == (fraction(p), fraction(q))
                self.assertIs(made(x, y) == made(p, q), same)
                self.assertIs(made(x, y) != made(p, q), not same)
            self.assertIs(made(1, 2) == made(Ratio(2, 2), Ratio(-4, -2)), True)
            self.assertIs(made(1, 2) == made(2, 1), False)
            self.assertIs(made(1, 2) == made(1, 3), False)
            self.assertIs(made(1, 2) == made(3, 2), False)

    def test_unequal_to_other_classes(self):
        others = [None, True, 0, 1, "1", (1, 2), [1, 2], {}, Ratio(1), Ratio(0)]
        for made in (Point, Form):
            for value in others:
                for x, y in ((0, 0), (1, 2)):
                    self.assertIs(made(x, y) == value, False)
                    self.assertIs(value == made(x, y), False)
                    self.assertIs(made(x, y) != value, True)
        self.assertIs(Point(1, 2) == Form(1, 2), False)
        self.assertIs(Form(1, 2) == Point(1, 2), False)

    def test_wrong_operands(self):
        for made, other in ((Point, Form), (Form, Point)):
            for sign in (operator.add, operator.sub, operator.mul):
                with self.assertRaises(TypeError):
                    sign(made(1, 2), other(1, 2))
            for value in (None, True, "a"):
                with self.assertRaises(TypeError):
                    made(1, 2) * value
                with self.assertRaises(TypeError):
                    value * made(1, 2)


class PointTest(unittest.TestCase):

    def test_bool(self):
        for x, y in coordinates(7):
            self.assertIs(bool(Point(x, y)), (fraction(x), fraction(y)) != (0, 0))
        self.assertIs(bool(Point(0, Ratio(1, HUNDRED))), True)
        self.assertIs(bool(Point(Ratio(-1, 9), 0)), True)

    def test_cross(self):
        for (x, y), (p, q) in itertools.product(coordinates(8), coordinates(9)):
            told = cross(Point(x, y), Point(p, q))
            self.assertIs(type(told), Ratio)
            self.assertEqual(fraction(told), fraction(x) * fraction(q) - fraction(y) * fraction(p))
        self.assertEqual(cross(other=Point(1, 3), one=Point(2, 1)), 5)
        self.assertEqual(cross(Point(1, 3), Point(2, 1)), -5)
        self.assertEqual(cross(Point(2, 4), Point(-3, -6)), 0)

    def test_order(self):
        draw = Draw(10)
        lists = [[], [Point(1, 2)], [Point(Ratio(2, 2), 1), Point(1, 0), Point(1, Ratio(2, 2)), Point(0, 5)]]
        lists += [[draw.whole_point(2) for _ in range(many)] for many in range(2, 20)]
        lists += [[draw.point(HUNDRED) for _ in range(200)]]
        lists += [[Point(3, draw.ratio(HUNDRED)) for _ in range(50)]]
        for given in lists:
            before = list(given)
            told = ascending_points(given)
            self.assertIs(type(told), list)
            self.assertEqual([pair(point) for point in told], sorted(pair(point) for point in given))
            self.assertTrue(all(type(point) is Point for point in told))
            self.assertEqual(len(given), len(before))
            self.assertTrue(all(one is other for one, other in zip(given, before)))
        self.assertEqual(ascending_points(points=(Point(1, 0), Point(0, 1))), [Point(0, 1), Point(1, 0)])

    def test_order_is_a_new_list(self):
        given = [Point(0, 0)]
        ascending_points(given).append(Point(1, 1))
        self.assertEqual(given, [Point(0, 0)])


class FormTest(unittest.TestCase):

    def test_values(self):
        for (x, y), (p, q) in itertools.product(coordinates(11), coordinates(12)):
            form, point = Form(x, y), Point(p, q)
            expected = fraction(x) * fraction(p) + fraction(y) * fraction(q)
            for told in (form(point), value_at(form, point), form(point=point), value_at(point=point, form=form)):
                self.assertIs(type(told), Ratio)
                self.assertEqual(fraction(told), expected)

    def test_examples(self):
        self.assertEqual(cross(Point(2, 1), Point(1, 3)), 5)
        self.assertEqual(Form(Ratio(1, 2), 1)(Point(3, 1)), Ratio(5, 2))

    def test_values_add_up(self):
        draw = Draw(13)
        for _ in range(50):
            one, other = Form(draw.ratio(9), draw.ratio(9)), Form(draw.ratio(9), draw.ratio(9))
            point = draw.point(HUNDRED)
            self.assertEqual((one + other)(point), one(point) + other(point))
            self.assertEqual((3 * one - other)(point), one(point) * 3 - other(point))


if __name__ == "__main__":
    unittest.main()
