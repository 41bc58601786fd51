"""[2], [33], [34], [65]: nearest places, places within a measure, differences and gaps."""

import itertools
import time
import unittest
from fractions import Fraction

from overfloors.errors import BadNumber, BadPoint, TooMany
from overfloors.grounds import Ground
from overfloors.lattices import Lattice
from overfloors.layers import Layer
from overfloors.near import differences, distance, gap, least_shifts, nearest, within
from overfloors.points import Point
from overfloors.ratios import Ratio
from drawn import Draw, HUNDRED, fraction, no_integers, no_points, pair, places
from search import around, box, closest, measure_of, told

S, T = Ground(1, 0, 1), Ground(1, 1, 1)
GROUNDS = [S, T, Ground(1, -1, 1), Ground(1, 0, 3), Ground(3, -5, 7), Ground(2, 2, 9), Ground(1, 5, 7), Ground(4, 3, 1)]
Z = Lattice.square(1)
HALF = Ratio(1, 2)
ORIGIN = Point(0, 0)


def layers_of(draw):
    """Layers with small cells."""
    found = [Layer(ORIGIN, Z), Layer(Point(HALF, HALF), Lattice.oblong(1, 2)), Layer(ORIGIN, Lattice([Point(1, 3), Point(0, 7)]))]
    for index in (2, 3, 4, 5):
        found.append(Layer(draw.point(4), draw.narrow_lattice(index) * Ratio(1, draw.random.randint(1, 3))))
    return found


class NearestTest(unittest.TestCase):

    def test_example(self):
        layer, middle = Layer(ORIGIN, Z), Point(HALF, HALF)
        self.assertEqual(nearest(S, layer, middle), [ORIGIN, Point(0, 1), Point(1, 0), Point(1, 1)])
        self.assertEqual(distance(S, layer, middle), HALF)

    def test_search(self):
        draw = Draw(1)
        numbers = set()
        for ground in GROUNDS:
            for layer in layers_of(draw):
                points = [draw.point(3), draw.point(9), draw.whole_point(5), layer.point, layer.point + layer.lattice.rows()[0] * HALF,
                          layer.point + layer.lattice.rows()[1] * HALF]
                for point in points:
                    least, expected = closest(ground, layer, point)
                    found = nearest(ground, layer, point)
                    self.assertIs(type(found), list)
                    self.assertEqual([type(each) for each in found], [Point] * len(found))
                    self.assertEqual(told(found), expected)
                    measure = distance(ground, layer, point)
                    self.assertIs(type(measure), Ratio)
                    self.assertEqual(fraction(measure), least)
                    numbers.add(len(found))
        self.assertTrue({1, 2} <= numbers)

    def test_ties(self):
        """Points with two, three and four nearest places."""
        layer = Layer(ORIGIN, Z)
        third = Ratio(1, 3)
        for ground, point, many in ((S, Point(HALF, 0), 2), (S, Point(HALF, HALF), 4), (T, Point(third, third), 3), (T, ORIGIN, 1),
                                    (T, Point(2 * third, 2 * third), 3), (T, Point(HALF, HALF), 2), (T, Point(HALF, 0), 2),
                                    (Ground(1, -1, 1), Point(third, -third), 3), (Ground(1, 0, 3), Point(HALF, HALF), 4),
                                    (Ground(2, 2, 9), Point(HALF, 0), 2), (Ground(2, 2, 3), Point(HALF, HALF), 2)):
            self.assertEqual(len(nearest(ground, layer, point)), many)
            self.assertEqual(told(nearest(ground, layer, point)), closest(ground, layer, point)[1])

    def test_all_small_points(self):
        for ground in GROUNDS:
            layer = Layer(Point(Ratio(1, 4), 0), Lattice([Point(1, 1), Point(0, 2)]))
            for x, y in itertools.product(range(8), range(16)):
                point = Point(Ratio(x, 8), Ratio(y, 8))
                self.assertEqual(told(nearest(ground, layer, point)), closest(ground, layer, point)[1])

    def test_far_points(self):
        draw = Draw(2)
        for ground in GROUNDS:
            for layer in layers_of(draw)[:4]:
                for size in (10 ** 30, HUNDRED):
                    point, step = draw.point(5), draw.member(layer.lattice, size)
                    expected = [place + step for place in nearest(ground, layer, point)]
                    self.assertEqual(nearest(ground, layer, point + step), expected)
                    self.assertEqual(distance(ground, layer, point + step), distance(ground, layer, point))

    def test_great_numbers(self):
        """[33] tells nearest places by pairs with the steps of a least base; here by six steps of any sort around them."""
        draw = Draw(3)
        for ground in GROUNDS + [Ground(10 ** 30 - 1, 10 ** 30 - 1, 10 ** 30 - 1)]:
            for size in (10 ** 30, HUNDRED, 10 ** 300 - 1):
                layer, point = draw.layer(size), draw.point(size)
                found = nearest(ground, layer, point)
                measure = distance(ground, layer, point)
                for place in found:
                    self.assertIn(place, layer)
                    self.assertEqual(ground.measure(place - point), measure)
                for place in (layer.point, layer.point + layer.lattice.rows()[1], found[0] + layer.lattice.rows()[0]):
                    self.assertGreaterEqual(ground.measure(place - point), measure)
                first, second = layer.lattice.rows()
                for m, n in itertools.product(range(-2, 3), repeat=2):
                    self.assertGreaterEqual(ground.measure(found[0] + first * m + second * n - point), measure)

    def test_wrong_points(self):
        layer = Layer(ORIGIN, Z)
        for value in no_points() + [S, layer]:
            for call in (nearest, distance):
                with self.assertRaises(BadPoint) as held:
                    call(S, layer, value)
                self.assertIs(held.exception.value, value)
        self.assertEqual(nearest(point=ORIGIN, layer=layer, ground=S), [ORIGIN])
        self.assertEqual(distance(point=ORIGIN, layer=layer, ground=S), 0)


class WithinTest(unittest.TestCase):

    def test_example(self):
        found = within(S, Layer(ORIGIN, Z), ORIGIN, 1)
        self.assertEqual(found, [ORIGIN, Point(-1, 0), Point(0, -1), Point(0, 1), Point(1, 0)])

    def test_search(self):
        draw = Draw(10)
        for ground in GROUNDS:
            for layer in layers_of(draw):
                point = draw.point(6)
                for far in (0, Ratio(1, 3), 1, Ratio(7, 2), 12, Ratio(100, 7)):
                    expected = around(ground, layer, point, fraction(far))
                    found = within(ground, layer, point, far, most=2000)
                    self.assertIs(type(found), list)
                    self.assertEqual([type(each) for each in found], [Point] * len(found))
                    self.assertEqual(told(found), [one[1:] for one in expected])

    def test_the_border_counts(self):
        for ground in GROUNDS:
            layer = Layer(Point(Ratio(1, 3), 0), Lattice([Point(1, 1), Point(0, 2)]))
            for x, y in box(layer, -3, 3, -3, 3):
                far = ground.measure(Point(Ratio(x.numerator, x.denominator), Ratio(y.numerator, y.denominator)))
                found = told(within(ground, layer, ORIGIN, far))
                self.assertIn((x, y), found)
                less = told(within(ground, layer, ORIGIN, far - Ratio(1, HUNDRED)))
                self.assertNotIn((x, y), less)
                self.assertEqual(found[:len(less)], less)

    def test_far_nought(self):
        layer = Layer(Point(HALF, 0), Z)
        self.assertEqual(within(S, layer, Point(HALF, 5), 0), [Point(HALF, 5)])
        self.assertEqual(within(S, layer, Point(HALF, 5), Ratio(0)), [Point(HALF, 5)])
        self.assertEqual(within(S, layer, Point(0, 5), 0), [])
        self.assertEqual(within(S, layer, Point(0, 5), 0, most=0), [])

    def test_most(self):
        layer = Layer(ORIGIN, Z)
        self.assertEqual(len(within(S, layer, ORIGIN, 1, most=5)), 5)
        for most in (4, 1, 0):
            with self.assertRaises(TooMany) as held:
                within(S, layer, ORIGIN, 1, most=most)
            self.assertEqual(held.exception.most, most)
        for far, most in ((60, 200), (63, 200), (64, 200), (620, 2000), (640, 2000)):
            many = len(around(S, layer, ORIGIN, Fraction(far)))
            if many <= most:
                self.assertEqual(len(within(S, layer, ORIGIN, far, most=most)), many)
                self.assertEqual(len(within(S, layer, ORIGIN, far, most=many)), many)
                with self.assertRaises(TooMany) as held:
                    within(S, layer, ORIGIN, far, most=many - 1)
                self.assertEqual(held.exception.most, many - 1)
            else:
                with self.assertRaises(TooMany) as held:
                    within(S, layer, ORIGIN, far, most=most)
                self.assertEqual(held.exception.most, most)
        with self.assertRaises(TooMany) as held:
            within(S, layer, ORIGIN, 100)
        self.assertEqual(held.exception.most, 200)

    def test_wrong_values(self):
        layer = Layer(ORIGIN, Z)
        wrong = no_integers() + [S, layer]
        for value in no_points():
            for far, most in ((1, 5), (-1, 5), (None, -1)):
                with self.assertRaises(BadPoint) as held:
                    within(S, layer, value, far, most=most)
                self.assertIs(held.exception.value, value)
        for value in wrong + [-1, Ratio(-1, HUNDRED), -HUNDRED]:
            for most in (5, -1, None):
                with self.assertRaises(BadNumber) as held:
                    within(S, layer, ORIGIN, value, most=most)
                self.assertIs(held.exception.value, value)
        for value in wrong + [-1, 2001, HUNDRED, Ratio(5), HALF]:
            for far in (0, 10 ** 10):
                with self.assertRaises(BadNumber) as held:
                    within(S, layer, ORIGIN, far, most=value)
                self.assertIs(held.exception.value, value)
        with self.assertRaises(TypeError):
            within(S, layer, ORIGIN, 1, 5)
        self.assertEqual(len(within(most=2000, far=1, point=ORIGIN, layer=layer, ground=S)), 5)

    def test_far_away(self):
        draw = Draw(11)
        for ground in GROUNDS:
            for layer in layers_of(draw)[:4]:
                point, step = draw.point(5), draw.member(layer.lattice, 10 ** 30)
                expected = [place + step for place in within(ground, layer, point, 5)]
                self.assertEqual(within(ground, layer, point + step, 5), expected)

    def test_great_numbers(self):
        draw = Draw(12)
        begun = time.monotonic()
        for ground in GROUNDS[:4]:
            for size in (10 ** 30, 10 ** 120):
                layer, point = draw.layer(size), draw.point(size)
                near = distance(ground, layer, point)
                self.assertEqual(within(ground, layer, point, near), nearest(ground, layer, point))
                self.assertEqual(within(ground, layer, point, near * Ratio(size - 1, size)), [])
                some = ground.measure(layer.lattice.rows()[1])
                for far in (some * size, some * HUNDRED * size):
                    with self.assertRaises(TooMany):
                        within(ground, layer, point, far, most=2000)
        for most in (0, 200, 2000):
            with self.assertRaises(TooMany):
                within(T, Layer(ORIGIN, Z), ORIGIN, 10 ** 120, most=most)
        narrow = Layer(ORIGIN, Lattice.oblong(HUNDRED, 1))
        self.assertEqual(len(within(S, narrow, ORIGIN, 25)), 11)
        self.assertEqual(len(within(S, narrow, Point(HUNDRED * 2, HALF), 1000000, most=2000)), 2000)
        self.assertLess(time.monotonic() - begun, 20)


class DifferencesTest(unittest.TestCase):

    def test_places(self):
        draw = Draw(20)
        for _ in range(30):
            one, other = draw.narrow_layer((1, 2, 3, 4)), draw.narrow_layer((1, 2, 3, 4, 6))
            found = differences(other=other, one=one)
            self.assertIs(type(found), Layer)
            expected = {((p - x) % 12, (q - y) % 12) for x, y in places(one, 12) for p, q in places(other, 12)}
            self.assertEqual(places(found, 12), expected)

    def test_which_is_taken_from_which(self):
        one, other = Layer(Point(0, 0), Lattice.square(5)), Layer(Point(1, 2), Lattice.square(5))
        self.assertEqual(differences(one, other), Layer(Point(1, 2), Lattice.square(5)))
        self.assertEqual(differences(other, one), Layer(Point(4, 3), Lattice.square(5)))
        self.assertEqual(differences(one, one), Layer(ORIGIN, Lattice.square(5)))

    def test_great_numbers(self):
        draw = Draw(21)
        one, other = draw.layer(HUNDRED), draw.layer(HUNDRED)
        found = differences(one, other)
        self.assertEqual(found.lattice, one.lattice + other.lattice)
        self.assertIn(other.point + other.lattice.rows()[0] - one.point, found)


class GapTest(unittest.TestCase):

    def searched(self, ground, ones, others):
        """The least differences that are not (0, 0) of two lists of layers, by their places."""
        found = []
        for one, other in itertools.product(ones, others):
            layer = Layer(other.point - one.point, one.lattice + other.lattice)
            rows = layer.lattice.rows()
            far = measure_of(ground, *pair(layer.point)) + max(measure_of(ground, *pair(row)) for row in rows)
            found = found + [triple for triple in around(ground, layer, ORIGIN, far) if triple[0] > 0]
        least = min(found)[0]
        return least, sorted({triple[1:] for triple in found if triple[0] == least})

    def assertGap(self, ground, ones, others):
        answer = gap(ground, ones, others)
        self.assertIs(type(answer), tuple)
        measure, points = answer
        self.assertIs(type(measure), Ratio)
        self.assertIs(type(points), list)
        self.assertEqual((fraction(measure), told(points)), self.searched(ground, ones, others))
        return answer

    def test_example(self):
        answer = gap(S, [Layer(ORIGIN, Z)], [Layer(Point(HALF, 0), Z)])
        self.assertEqual(answer, (Ratio(1, 4), [Point(-HALF, 0), Point(HALF, 0)]))

    def test_search(self):
        draw = Draw(30)
        for ground in GROUNDS:
            for many, others in ((1, 1), (2, 1), (1, 3), (3, 3), (6, 6)):
                ones = [draw.narrow_layer((4, 6, 12)) for _ in range(many)]
                twos = [draw.narrow_layer((4, 6, 9)).shifted(Point(HALF, 0) * draw.integer(1)) for _ in range(others)]
                self.assertGap(ground, ones, twos)
                self.assertGap(ground, tuple(twos), tuple(ones))

    def test_itself(self):
        """Of a layer with itself (0, 0) does not count."""
        layer = Layer(Point(HALF, 0), Z)
        self.assertEqual(gap(S, [layer], [layer]), (1, [Point(-1, 0), Point(0, -1), Point(0, 1), Point(1, 0)]))
        self.assertEqual(len(gap(T, [layer], [layer])[1]), 6)
        for ground in GROUNDS:
            for other in (layer, Layer(ORIGIN, Lattice.oblong(1, 3)), Layer(ORIGIN, Lattice([Point(2, 1), Point(0, 3)]))):
                self.assertGap(ground, [other], [other])
                self.assertGap(ground, [other], [layer, other, other])

    def test_places_in_common(self):
        even, third = Layer(ORIGIN, Lattice.oblong(2, 1)), Layer(Point(1, 0), Lattice.oblong(3, 1))
        self.assertIsNotNone(even & third)
        self.assertEqual(gap(S, [even], [third])[0], 1)
        self.assertEqual(gap(ones=[even], others=[third], ground=S), gap(S, [even], [third]))

    def test_each_once(self):
        layer, moved = Layer(ORIGIN, Z), Layer(Point(HALF, 0), Z)
        answer = gap(S, [layer, layer, layer], [moved, moved])
        self.assertEqual(answer, (Ratio(1, 4), [Point(-HALF, 0), Point(HALF, 0)]))

    def test_great_numbers(self):
        draw = Draw(31)
        begun = time.monotonic()
        ones, others = [draw.layer(10 ** 120) for _ in range(6)], [draw.layer(10 ** 120) for _ in range(6)]
        measure, points = gap(Ground(3, -5, 7), ones, others)
        for point in points:
            self.assertEqual(Ground(3, -5, 7).measure(point), measure)
            self.assertTrue(any(point in differences(one, other) for one in ones for other in others))
        self.assertLess(time.monotonic() - begun, 20)


class ShiftsTest(unittest.TestCase):

    def test_search(self):
        draw = Draw(40)
        for ground in GROUNDS:
            for _ in range(6):
                one, other = draw.narrow_layer((4, 6, 12)), draw.narrow_layer((4, 6, 9)).shifted(Point(HALF, 0) * draw.integer(1))
                found = least_shifts(ground, one, other)
                self.assertIs(type(found), list)
                layer = Layer(other.point - one.point, one.lattice + other.lattice)
                self.assertEqual(told(found), closest(ground, layer, ORIGIN)[1])
                for shift in found:
                    self.assertIsNotNone(one.shifted(shift) & other)

    def test_no_shift(self):
        even, third = Layer(ORIGIN, Lattice.oblong(2, 1)), Layer(Point(1, 0), Lattice.oblong(3, 1))
        self.assertEqual(least_shifts(S, even, third), [ORIGIN])
        self.assertEqual(least_shifts(S, even, even.shifted(Point(1, 0))), [Point(-1, 0), Point(1, 0)])

    def test_one_is_moved(self):
        wide = Lattice.square(10)
        self.assertEqual(least_shifts(S, Layer(ORIGIN, wide), Layer(Point(2, 1), wide)), [Point(2, 1)])
        self.assertEqual(least_shifts(other=Layer(ORIGIN, wide), one=Layer(Point(2, 1), wide), ground=S), [Point(-2, -1)])

    def test_great_numbers(self):
        draw = Draw(41)
        for size in (10 ** 30, HUNDRED):
            one, other = draw.layer(size), draw.layer(size)
            for shift in least_shifts(T, one, other):
                self.assertIsNotNone(one.shifted(shift) & other)


if __name__ == "__main__":
    unittest.main()
