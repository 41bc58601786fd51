"""[51], [52]: the order of numbers and points, however many there are and however close they lie."""

import unittest
from random import Random

from overfloors.order import ranked
from overfloors.points import Point, ascending_points
from overfloors.ratios import Ratio, ascending, greatest, least
from drawn import HUNDRED, fraction, pair


class OrderTest(unittest.TestCase):

    def test_rows(self):
        random = Random(220)
        for many in [*range(14), 50, 200]:
            for width in (1, 2, 3):
                for size in (1, 3, HUNDRED):
                    rows = [tuple(random.randint(-size, size) for _ in range(width)) for _ in range(many)]
                    # Of equal rows the first one comes first.
                    self.assertEqual(ranked(rows), sorted(range(many), key=lambda index: rows[index]))

    def test_close_numbers(self):
        random = Random(221)
        numbers = [Ratio(HUNDRED + at, HUNDRED + at + 1) for at in range(40)]
        numbers += [Ratio(-one.top, one.bottom) for one in numbers] + [1, 0, Ratio(1, HUNDRED), -1, Ratio(2, 2 * HUNDRED)]
        random.shuffle(numbers)
        told = ascending(numbers)
        self.assertTrue(all(isinstance(number, Ratio) for number in told))
        self.assertEqual([fraction(number) for number in told], sorted(fraction(number) for number in numbers))
        self.assertEqual((least(numbers), greatest(numbers)), (-1, 1))

    def test_close_points(self):
        random = Random(222)
        for many in (1, 2, 8, 9, 200):
            points = [
                Point(Ratio(random.randint(-2, 2), random.choice([1, 3, HUNDRED])), Ratio(random.randint(-HUNDRED, HUNDRED), HUNDRED + 1))
                for _ in range(many)
            ]
            found = ascending_points(points)
            self.assertEqual([pair(point) for point in found], sorted(pair(point) for point in points))
        self.assertEqual(ascending_points([]), [])


if __name__ == "__main__":
    unittest.main()
