"""[3], [4], [51]: numbers."""

import itertools
import math
import operator
import unittest
from fractions import Fraction

from overfloors.errors import BadNumber, NoSuch
from overfloors.points import Point
from overfloors.ratios import (
    Ratio, ascending, bezout, gcd_of, greatest, lcm_of, least, ratio_of)
from drawn import Draw, HUNDRED, Other, fraction, no_integers


class Base(unittest.TestCase):

    def assertRatio(self, value, expected):
        """The value is a Ratio in lowest terms and equals the number expected."""
        self.assertIs(type(value), Ratio)
        expected = Fraction(expected)
        self.assertEqual((value.top, value.bottom), (expected.numerator, expected.denominator))
        self.assertIs(type(value.top), int)
        self.assertIs(type(value.bottom), int)

    def assertBad(self, value, call, *given, **named):
        with self.assertRaises(BadNumber) as held:
            call(*given, **named)
        self.assertIs(held.exception.value, value)


def numbers(seed):
    """Ratios and integers, small and great ones, of either sign."""
    draw = Draw(seed)
    found = [0, 1, -1, 2, -3, 12, Ratio(0), Ratio(5), Ratio(1, 2), Ratio(-3, 2), Ratio(2, -3), Ratio(-7, -4)]
    found += [draw.ratio(30) for _ in range(12)] + [draw.ratio(HUNDRED) for _ in range(8)]
    return found + [draw.integer(HUNDRED) for _ in range(4)] + [Ratio(draw.integer(HUNDRED))]


class MakingTest(Base):

    def test_lowest_terms(self):
        for top, bottom in itertools.product(range(-12, 13), repeat=2):
            if bottom != 0:
                self.assertRatio(Ratio(top, bottom), Fraction(top, bottom))

    def test_example(self):
        self.assertEqual((Ratio(6, -4).top, Ratio(6, -4).bottom), (-3, 2))
        self.assertEqual(Ratio(-3, 2) // 1, -2)
        self.assertRatio(Ratio(-3, 2) % 1, Fraction(1, 2))
        self.assertEqual(Ratio(-3, 2).ceiling(), -1)
        self.assertEqual(gcd_of(12, -18), 6)
        self.assertEqual(lcm_of(4, 6), 12)

    def test_default_bottom_and_names(self):
        self.assertRatio(Ratio(7), 7)
        self.assertRatio(Ratio(bottom=4, top=6), Fraction(3, 2))
        self.assertRatio(Ratio(6, bottom=-4), Fraction(-3, 2))

    def test_zero_is_zero_over_one(self):
        for bottom in (1, -1, 7, -HUNDRED):
            self.assertEqual((Ratio(0, bottom).top, Ratio(0, bottom).bottom), (0, 1))

    def test_great_numbers(self):
        draw = Draw(1)
        for _ in range(50):
            top, bottom, factor = draw.integer(HUNDRED), draw.integer(HUNDRED), draw.integer(HUNDRED)
            if bottom * factor != 0:
                self.assertRatio(Ratio(top * factor, bottom * factor), Fraction(top, bottom))

    def test_wrong_values(self):
        for value in no_integers() + [Ratio(1, 2), Ratio(3)]:
            self.assertBad(value, Ratio, value)
            self.assertBad(value, Ratio, value, 2)
            self.assertBad(value, Ratio, 2, value)
            self.assertBad(value, Ratio, top=value)
            self.assertBad(value, Ratio, 0, bottom=value)
            self.assertBad(value, Ratio, value, 0)
            self.assertBad(value, Ratio, value, Other())

    def test_bottom_zero(self):
        for top in (0, 1, -5, HUNDRED):
            with self.assertRaises(BadNumber) as held:
                Ratio(top, 0)
            self.assertEqual(held.exception.value, 0)
            self.assertIs(type(held.exception.value), int)


class OperatorsTest(Base):

    def test_sums_differences_products(self):
        for one, other in itertools.product(numbers(2), repeat=2):
            if isinstance(one, Ratio) or isinstance(other, Ratio):
                first, second = fraction(one), fraction(other)
                self.assertRatio(one + other, first + second)
                self.assertRatio(one - other, first - second)
                self.assertRatio(one * other, first * second)

    def test_floors_and_remainders(self):
        for one, other in itertools.product(numbers(3), repeat=2):
            if (isinstance(one, Ratio) or isinstance(other, Ratio)) and fraction(other) != 0:
                quotient = one // other
                self.assertIs(type(quotient), int)
                self.assertEqual(quotient, fraction(one) // fraction(other))
                self.assertRatio(one % other, fraction(one) - quotient * fraction(other))

    def test_divisors_below_zero(self):
        self.assertEqual(Ratio(7, 2) // -1, -4)
        self.assertRatio(Ratio(7, 2) % -1, Fraction(-1, 2))
        self.assertEqual(Ratio(7, 2) // Ratio(-2, 3), -6)
        self.assertRatio(Ratio(7, 2) % Ratio(-2, 3), Fraction(-1, 2))
        self.assertEqual(5 // Ratio(-3, 2), -4)
        self.assertRatio(5 % Ratio(-3, 2), -1)
        self.assertRatio(6 % Ratio(-3, 2), 0)

    def test_division_by_zero(self):
        zero = Ratio(0)
        for one in numbers(4):
            for sign in (operator.floordiv, operator.mod):
                self.assertBad(zero, sign, one, zero)
                if isinstance(one, Ratio):
                    self.assertBad(0, sign, one, 0)

    def test_comparisons(self):
        signs = (operator.eq, operator.ne, operator.lt, operator.le, operator.gt, operator.ge)
        for one, other in itertools.product(numbers(5), repeat=2):
            if isinstance(one, Ratio) or isinstance(other, Ratio):
                for sign in signs:
                    self.assertIs(sign(one, other), sign(fraction(one), fraction(other)))

    def test_comparisons_of_near_numbers(self):
        one, other = Ratio(HUNDRED, HUNDRED + 1), Ratio(HUNDRED + 1, HUNDRED + 2)
        self.assertTrue(one < other < 1)
        self.assertTrue(1 > other > one)
        self.assertFalse(one == other)

    def test_unequal_to_other_classes(self):
        for value in no_integers() + [0.5, 1.0, Fraction(1), Fraction(1, 2)]:
            for ratio in (Ratio(0), Ratio(1), Ratio(1, 2)):
                self.assertIs(ratio == value, False)
                self.assertIs(value == ratio, False)
                self.assertIs(ratio != value, True)

    def test_powers(self):
        for base in numbers(6):
            if isinstance(base, Ratio):
                for exponent in range(0, 8):
                    self.assertRatio(base ** exponent, fraction(base) ** exponent)
        self.assertRatio(Ratio(0) ** 0, 1)
        self.assertRatio(Ratio(2, 3) ** 500, Fraction(2, 3) ** 500)

    def test_powers_with_great_exponents(self):
        for base, exponent, expected in ((1, HUNDRED, 1), (0, HUNDRED, 0), (-1, HUNDRED + 1, -1), (-1, HUNDRED, 1)):
            self.assertRatio(Ratio(base) ** exponent, expected)

    def test_one_sided_operators(self):
        for one in numbers(7):
            if isinstance(one, Ratio):
                self.assertRatio(-one, -fraction(one))
                self.assertRatio(abs(one), abs(fraction(one)))
                self.assertIs(bool(one), fraction(one) != 0)

    def test_text(self):
        self.assertEqual(str(Ratio(2, 3)), "2/3")
        self.assertEqual(str(Ratio(-2, 3)), "-2/3")
        self.assertEqual(str(Ratio(2, -3)), "-2/3")
        self.assertEqual(str(Ratio(10, 2)), "5")
        self.assertEqual(str(Ratio(-5)), "-5")
        self.assertEqual(str(Ratio(0, 9)), "0")
        self.assertEqual(str(Ratio(10 ** 3999, 7 ** 4000)), f"{10 ** 3999}/{7 ** 4000}")

    def test_wrong_operands(self):
        signs = (
            operator.add, operator.sub, operator.mul, operator.floordiv, operator.mod,
            operator.lt, operator.le, operator.gt, operator.ge)
        for sign in signs:
            for value in (None, True, "a", [1]):
                with self.assertRaises(TypeError):
                    sign(Ratio(1, 2), value)
                with self.assertRaises(TypeError):
                    sign(value, Ratio(1, 2))

    def test_operators_change_nothing(self):
        one, other = Ratio(3, 4), Ratio(-5, 6)
        results = [one + other, one - other, one * other, one // other, one % other, -one, abs(other), one ** 3]
        self.assertEqual(len(results), 8)
        self.assertRatio(one, Fraction(3, 4))
        self.assertRatio(other, Fraction(-5, 6))


class MethodsTest(Base):

    def test_over(self):
        for one, other in itertools.product(numbers(8), repeat=2):
            if isinstance(one, Ratio) and fraction(other) != 0:
                self.assertRatio(one.over(other), fraction(one) / fraction(other))
        self.assertRatio(Ratio(3).over(number=Ratio(-3, 2)), -2)

    def test_over_wrong_values(self):
        zero = Ratio(0)
        for value in no_integers() + [0, zero]:
            self.assertBad(value, Ratio(1, 2).over, value)
            self.assertBad(value, Ratio(0).over, number=value)

    def test_floor_ceiling_whole_sign(self):
        for one in numbers(9):
            if isinstance(one, Ratio):
                told = fraction(one)
                self.assertEqual(one.floor(), math.floor(told))
                self.assertEqual(one.ceiling(), math.ceil(told))
                self.assertIs(type(one.floor()), int)
                self.assertIs(type(one.ceiling()), int)
                self.assertIs(one.whole(), told.denominator == 1)
                self.assertEqual(one.sign(), (told > 0) - (told < 0))
                self.assertIs(type(one.sign()), int)

    def test_ratio_of(self):
        for one in numbers(10):
            self.assertRatio(ratio_of(one), fraction(one))
        self.assertRatio(ratio_of(number=4), 4)

    def test_ratio_of_wrong_values(self):
        for value in no_integers():
            self.assertBad(value, ratio_of, value)
            self.assertBad(value, ratio_of, number=value)


class IntegersTest(Base):

    def pairs(self):
        draw = Draw(11)
        found = list(itertools.product(range(-12, 13), repeat=2))
        for _ in range(40):
            factor = draw.integer(HUNDRED)
            found.append((factor * draw.integer(HUNDRED), factor * draw.integer(50)))
            found.append((draw.integer(HUNDRED), draw.integer(HUNDRED)))
        return found + [(0, HUNDRED), (-HUNDRED, 0), (HUNDRED, HUNDRED), (HUNDRED, -HUNDRED)]

    def test_gcd_and_lcm(self):
        for first, second in self.pairs():
            self.assertEqual(gcd_of(first, second), math.gcd(first, second))
            self.assertEqual(lcm_of(first, second), math.lcm(first, second))
            self.assertGreaterEqual(lcm_of(first, second), 0)
        self.assertEqual(gcd_of(0, 0), 0)
        self.assertEqual(lcm_of(0, 5), 0)
        self.assertEqual(lcm_of(5, 0), 0)
        self.assertEqual(lcm_of(-4, 6), 12)
        self.assertEqual(gcd_of(second=-18, first=12), 6)
        self.assertEqual(lcm_of(second=6, first=4), 12)

    def test_bezout(self):
        for first, second in self.pairs():
            told = bezout(first, second)
            self.assertIs(type(told), tuple)
            common, s, t = told
            self.assertEqual(common, math.gcd(first, second))
            self.assertEqual(s * first + t * second, common)
        self.assertEqual(bezout(0, 0)[0], 0)
        self.assertEqual(bezout(second=6, first=4)[0], 2)


class OrderTest(Base):

    def lists(self):
        draw = Draw(12)
        yield [3]
        yield [Ratio(1, 2), 0, Ratio(2, 4), Ratio(3, 6), -1, Ratio(-1), Ratio(4, 2), 2]
        for many in range(1, 20):
            yield [draw.ratio(5) if draw.integer(1) else draw.integer(3) for _ in range(many)]
        yield [draw.ratio(HUNDRED) for _ in range(200)]
        yield [Ratio(HUNDRED + k, HUNDRED + k + 1) for k in range(200, 0, -1)]

    def test_ascending(self):
        for given in self.lists():
            before = list(given)
            told = ascending(given)
            self.assertIs(type(told), list)
            self.assertEqual(len(told), len(given))
            for one, expected in zip(told, sorted(fraction(number) for number in given)):
                self.assertRatio(one, expected)
            self.assertTrue(all(one is other for one, other in zip(given, before)))
            self.assertEqual(len(given), len(before))

    def test_least_and_greatest(self):
        for given in self.lists():
            before = list(given)
            self.assertRatio(least(given), min(fraction(number) for number in given))
            self.assertRatio(greatest(given), max(fraction(number) for number in given))
            self.assertTrue(all(one is other for one, other in zip(given, before)))

    def test_empty_lists(self):
        self.assertEqual(ascending([]), [])
        self.assertEqual(ascending(()), [])
        for call in (least, greatest):
            for given in ([], ()):
                with self.assertRaises(NoSuch) as held:
                    call(given)
                self.assertEqual(held.exception.number, 0)

    def test_tuples_and_names(self):
        self.assertEqual(ascending(numbers=(2, Ratio(1, 2), 1)), [Ratio(1, 2), Ratio(1), Ratio(2)])
        self.assertRatio(least(numbers=(2, 1)), 1)
        self.assertRatio(greatest(numbers=(2, 1)), 2)

    def test_result_is_new(self):
        given = [Ratio(1), Ratio(2)]
        ascending(given).append(Ratio(3))
        self.assertEqual(len(given), 2)
        self.assertEqual(len(ascending(given)), 2)


class MixedTest(Base):

    def test_numbers_beside_points(self):
        self.assertEqual(Ratio(1, 2) * Point(2, 4), Point(1, 2))
        with self.assertRaises(TypeError):
            Ratio(1, 2) + Point(2, 4)


if __name__ == "__main__":
    unittest.main()
