"""[41], [71]: whether layers cover a layer."""

import unittest

from overfloors.covers import covers, uncovered, window_points
from overfloors.errors import BadNumber, TooMany
from overfloors.lattices import Lattice
from overfloors.layers import Layer
from overfloors.motions import Motion
from overfloors.points import Point
from overfloors.ratios import Ratio
from drawn import HUNDRED, Draw, columns, no_integers, places

SIZE = 12


class CoversTest(unittest.TestCase):

    def test_example(self):
        ground, halves = columns(1), [columns(2), columns(2, 1)]
        self.assertIs(covers(halves, ground), True)
        self.assertIs(covers(halves[:1], ground), False)
        self.assertIsNone(uncovered(halves, ground))
        self.assertEqual(len(window_points(ground, 2)), 16)

    def check(self, layers, layer, expected):
        self.assertIs(covers(layers, layer), expected)
        point = uncovered(layers, layer)
        if expected:
            self.assertIsNone(point)
        else:
            self.assertIn(point, layer)
            self.assertFalse(any(point in one for one in layers))

    def test_small_layers(self):
        draw = Draw(80)
        held = 0
        for _ in range(300):
            layers = draw.small_layers(draw.random.randint(1, 6))
            layer = draw.narrow_layer([1, 2, 3, 4, 6, 12])
            expected = places(layer, SIZE) <= set().union(*[places(one, SIZE) for one in layers])
            self.check(layers, layer, expected)
            held += expected
        self.assertGreater(held, 20)

    def test_covers_less_one(self):
        """Covers of a layer by parts, some of them parted again; without any part it is none any more."""
        draw = Draw(81)
        for round_ in range(60):
            motion = Motion([[draw.integer(10 ** 30) + 10 ** 31, 3], [draw.integer(10 ** 30), Ratio(7, 10 ** 30 + 1)]])
            if round_ % 2 == 0:
                motion = Motion([[1, 0], [0, 1]])
            parts = [columns(1)]
            while len(parts) < draw.random.randint(2, 6):
                parts = parts[1:] + [half for half in halves_of(draw, parts[0])]
            parts = parts[:6]
            whole = [columns(1)] if len(parts) == 1 else parts
            layer, layers = columns(1).moved(motion), [part.moved(motion) for part in whole]
            expected = covered_by_hand(whole)
            self.check(layers, layer, expected)
            for at in range(len(layers)):
                less = layers[:at] + layers[at + 1:]
                self.check(less, layer, False)
                shifted = [*less, layers[at].shifted(motion(Point(0, Ratio(1, 2))))]
                self.check(shifted, layer, False)
                thin = [*less, Layer(layers[at].point, 2 * layers[at].lattice)]
                self.check(thin, layer, False)

    def test_window_is_enough(self):
        """Powers of two leave the last one of 2 ** 6 columns alone, in each direction."""
        layers = [columns(2 ** size, 2 ** (size - 1)) for size in range(1, 7)]
        self.assertEqual(uncovered(layers, columns(1)), Point(0, 0))
        shifted = [layer.shifted(Point(-1, 0)) for layer in layers]
        point = uncovered(shifted, columns(1))
        self.assertEqual((point.x + 1) % 64, 0)
        rows = [Layer(Point(0, layer.point.x - 1), Lattice.oblong(1, layer.lattice.a)) for layer in layers]
        self.assertEqual((uncovered(rows, columns(1)).y + 1) % 64, 0)
        for many in range(7):
            self.assertIs(covers(shifted[:many], columns(1)), False)
        self.assertIs(covers([*shifted[:5], columns(32, 31)], columns(1)), True)

    def test_long_numbers(self):
        side = 10 ** 30 + 57
        layer = Layer(Point(Ratio(1, 3), 5), Lattice([Point(side, Ratio(1, 7)), Point(0, Ratio(side, 9))]))
        u, v = layer.lattice.rows()
        thirds = [Layer(layer.point + (u + v) * at, Lattice([u * 3, v - u])) for at in range(3)]
        self.check(thirds, layer, covered_along(layer, thirds))
        rows = [Layer(layer.point + v * at, Lattice([u, v * 5])) for at in range(5)]
        self.check(rows, layer, True)
        self.check(rows + [columns(HUNDRED)], layer, True)
        for at in range(5):
            self.check(rows[:at] + rows[at + 1:], layer, False)
            self.check(rows[:at] + rows[at + 1:] + [Layer(rows[at].point, Lattice([u * 2, v * 5]))], layer, False)
        self.check([Layer(layer.point, Lattice([u * HUNDRED, v]))], layer, False)
        self.check([], layer, False)

    def test_walk_over_the_window(self):
        """Parts of a layer and other layers, against the points of the window one by one."""
        draw = Draw(82)
        told = []
        for size, many in [(3, 4)] * 40 + [(10 ** 28, 3)] * 40 + [(5, 5)] * 6 + [(10 ** 28, 6)] * 3 + [(4, 6)] * 3:
            layer = draw.layer(size)
            layers = parts_of(draw, layer, many)[draw.random.randint(0, 1):]
            while len(layers) < many:
                layers.append(draw.random.choice([draw.layer(min(size, 9)), layer.shifted(draw.point(2)), *layers[:1]]))
            if draw.random.randrange(3) == 0:
                layers[-1] = Layer(layers[-1].point, layers[-1].lattice * draw.random.randint(1, 3))
            draw.random.shuffle(layers)
            points = window_points(layer, len(layers))
            bare = [point for point in points if not any(point in one for one in layers)]
            self.check(layers, layer, len(bare) == 0)
            told.append(len(bare) == 0)
        self.assertGreater(sum(told), 15)
        self.assertGreater(len(told) - sum(told), 15)

    def test_long_columns(self):
        """Layers that hold few columns or few points of a column of the window, and layers far wider than it."""
        u, v = Point(10 ** 28 + 1, 3), Point(Ratio(1, 7), 10 ** 28 - 1)
        layer = Layer(u, Lattice([u, v]))
        first, second = layer.lattice.rows()
        far = Layer(layer.point + second * 10 ** 29, Lattice([first * 10 ** 29, second * (10 ** 30 + 1)]))
        slanted = [Layer(layer.point + second * at, Lattice([first + second * 2, second * 5])) for at in range(5)]
        self.check([*slanted, far], layer, True)
        for at in range(5):
            less = slanted[:at] + slanted[at + 1:]
            self.check([*less, far], layer, False)
            # What is left of a part are two columns out of three, of which one more is taken.
            columns_left = [Layer(slanted[at].point, Lattice([(first + second * 2) * 3, second * 5]))]
            self.check([*less, *columns_left], layer, False)
            columns_left.append(columns_left[0].shifted(first + second * 2))
            self.check([*less[:4], *columns_left], layer, False)
        whole = [Layer(slanted[0].point + (first + second * 2) * at, Lattice([(first + second * 2) * 2, second * 5])) for at in (0, 1)]
        self.check(slanted[1:] + whole, layer, True)

    def test_six_and_seven(self):
        six = [columns(6, first) for first in range(6)]
        self.check(six, columns(1), True)
        self.check([columns(2)] * 6, columns(1), False)
        self.check([columns(2)] * 6, columns(4), True)
        for layers in (six + [columns(1)], [columns(2)] * 7, six + [columns(6)]):
            for call in (covers, uncovered):
                with self.assertRaises(TooMany) as caught:
                    call(layers, columns(1))
                self.assertEqual(caught.exception.most, 6)

    def test_arguments(self):
        layers = [columns(2), columns(2, 1)]
        self.assertIs(covers(layer=columns(1), layers=tuple(layers)), True)
        self.assertIsNone(uncovered(layer=columns(1), layers=tuple(layers)))
        self.assertEqual(len(layers), 2)


class WindowPointsTest(unittest.TestCase):

    def test_order(self):
        layer = Layer(Point(1, 1), Lattice([Point(5, 2), Point(0, 3)]))
        for many in range(7):
            reach = range(2 ** many)
            expected = [Point(1 + 5 * i, 1 + 2 * i + 3 * j) for i in reach for j in reach]
            self.assertEqual(window_points(layer=layer, many=many), expected)
        long = Layer(Point(HUNDRED, 0), Lattice.oblong(HUNDRED + 1, Ratio(1, HUNDRED)))
        c, (u, v) = long.point, long.lattice.rows()
        self.assertEqual(window_points(long, 1), [c, c + v, c + u, c + u + v])

    def test_wrong_numbers(self):
        for value in no_integers() + [-1, 7, HUNDRED, -HUNDRED, Ratio(2), Ratio(1, 2)]:
            with self.assertRaises(BadNumber) as caught:
                window_points(columns(1), value)
            self.assertIs(caught.exception.value, value)


def parts_of(draw, layer, many):
    """At most so many parts that a layer is made of, along a step that is drawn."""
    u, v = layer.lattice.rows()
    parts = draw.random.randint(1, many)
    lean = draw.random.randint(0, parts)
    if draw.random.randrange(3) == 0:
        return [Layer(layer.point + u * at, Lattice([u * parts, v])) for at in range(parts)]
    return [Layer(layer.point + v * at, Lattice([u + v * lean, v * parts])) for at in range(parts)]


def halves_of(draw, layer):
    """Two parts that a layer is made of."""
    u, v = layer.lattice.rows()
    if draw.random.random() < 0.5:
        return [Layer(layer.point, Lattice([u * 2, v])), Layer(layer.point + u, Lattice([u * 2, v]))]
    return [Layer(layer.point, Lattice([u, v * 2])), Layer(layer.point + v, Lattice([u, v * 2]))]


def covered_by_hand(parts):
    """Whether parts with lattices of powers of two hold all whole points."""
    return {(x, y) for x in range(64) for y in range(64)} <= set().union(*[places(part, 64) for part in parts])


def covered_along(layer, parts):
    """Whether each of the first points of a layer is in one of the parts, along both rows."""
    u, v = layer.lattice.rows()
    points = [layer.point + u * i + v * j for i in range(8) for j in range(8)]
    return all(any(point in part for part in parts) for point in points)


if __name__ == "__main__":
    unittest.main()
