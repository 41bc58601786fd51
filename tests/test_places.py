"""[39], [40], [70]: sets of places."""

import unittest
from fractions import Fraction

from overfloors.errors import TooMany
from overfloors.lattices import Lattice
from overfloors.layers import Layer
from overfloors.motions import Motion
from overfloors.places import Places
from overfloors.points import Point
from overfloors.ratios import Ratio
from drawn import HUNDRED, Draw, columns, fraction, no_points
from expressions import drawn, holds, made, named, patterns, walked

SIZE = 12


class WalkTest(unittest.TestCase):
    """Sets of small layers, against the points of a common cell one by one."""

    def setUp(self):
        self.draw = Draw(70)

    def drawn(self, depth=4):
        """An expression, its layers, its set, and its points in the square of SIZE."""
        layers = self.draw.small_layers(self.draw.random.randint(1, 6))
        told = drawn(self.draw, layers, depth)
        return told, layers, made(told, layers), walked(told, layers, SIZE)

    def test_points_and_thickness(self):
        for _ in range(150):
            told, layers, found, expected = self.drawn()
            here = {(x, y) for x in range(SIZE) for y in range(SIZE) if Point(x, y) in found}
            self.assertEqual(here, expected)
            self.assertNotIn(Point(Ratio(1, 2), 0), found)
            thick = found.thick()
            self.assertIsInstance(thick, Ratio)
            self.assertEqual(fraction(thick), Fraction(len(expected), SIZE * SIZE))
            self.assertIs(bool(found), len(expected) > 0)
            point = found.witness()
            if expected:
                self.assertIn((fraction(point.x) % SIZE, fraction(point.y) % SIZE), expected)
            else:
                self.assertIsNone(point)

    def test_layers_and_patterns(self):
        for _ in range(150):
            told, layers, found, expected = self.drawn()
            names = named(told)
            self.assertIsInstance(found.layers, tuple)
            self.assertEqual(list(found.layers), [layers[index] for index in names])
            counts = {}
            for x, y in expected:
                key = tuple(at for at, layer in enumerate(found.layers) if Point(x, y) in layer)
                counts[key] = counts.get(key, 0) + 1
            keys = sorted(counts, key=lambda key: (len(key), key))
            patterns = found.patterns()
            self.assertEqual([indexes for indexes, _ in patterns], keys)
            for indexes, thick in patterns:
                self.assertIsInstance(thick, Ratio)
                self.assertEqual(fraction(thick), Fraction(counts[indexes], SIZE * SIZE))

    def test_equal_and_inside(self):
        equal, inside = 0, 0
        for _ in range(250):
            layers = self.draw.small_layers(self.draw.random.randint(1, 4))
            one, other = [drawn(self.draw, layers, self.draw.random.randint(1, 3)) for _ in range(2)]
            sets = made(one, layers), made(other, layers)
            points = walked(one, layers, SIZE), walked(other, layers, SIZE)
            self.assertIs(sets[0] == sets[1], points[0] == points[1])
            self.assertIs(sets[0] != sets[1], points[0] != points[1])
            self.assertIs(sets[0].inside(sets[1]), points[0] <= points[1])
            self.assertIs(sets[1].inside(other=sets[0]), points[1] <= points[0])
            equal += points[0] == points[1]
            inside += points[0] < points[1]
        self.assertGreater(equal, 20)
        self.assertGreater(inside, 20)

    def test_one_set_by_other_layers(self):
        for _ in range(40):
            told, layers, found, expected = self.drawn(2)
            parts = [Layer(Point(x, y), Lattice.square(SIZE)) for x, y in sorted(expected)[:6]]
            again = Places(parts)
            self.assertIs(found == again, len(expected) <= 6)
            self.assertTrue(again.inside(found))
            self.assertIs(found.inside(again), len(expected) <= 6)

    def test_moved(self):
        motion = Motion([[Ratio(2, 3), 1], [0, Ratio(5, 7)]], Point(Ratio(1, 9), -4))
        for _ in range(40):
            told, layers, found, expected = self.drawn(3)
            image, shifted = found.moved(motion), found.shifted(Point(Ratio(1, 3), 5))
            self.assertEqual(image.thick() * abs(motion.factor()), found.thick())
            self.assertEqual(shifted.thick(), found.thick())
            self.assertEqual(list(image.layers), [layer.moved(motion) for layer in found.layers])
            self.assertEqual(list(shifted.layers), [layer.shifted(Point(Ratio(1, 3), 5)) for layer in found.layers])
            for x, y in [(0, 0), (1, 5), (7, 3), (11, 11)]:
                self.assertIs(motion(Point(x, y)) in image, (x, y) in expected)
                self.assertIs(Point(x + Ratio(1, 3), y + 5) in shifted, (x, y) in expected)
            self.assertTrue(image.moved(motion=~motion) == found)
            self.assertTrue(shifted.shifted(point=Point(Ratio(-1, 3), -5)) == found)


class SetsTest(unittest.TestCase):

    def test_example(self):
        even, third = Places([columns(2)]), Places([columns(3, 1)])
        self.assertEqual((even & third).thick(), Ratio(1, 6))
        self.assertEqual((even | third).thick(), Ratio(2, 3))
        self.assertIn(Point(4, 7), even & third)
        self.assertNotIn(Point(4, 7), even - third)
        both = Places([columns(6, 4)])
        self.assertTrue(even & third == both)
        self.assertTrue(both.inside(even))
        self.assertFalse(even.inside(both))
        self.assertEqual(len((even ^ third).patterns()), 2)
        self.assertFalse(both - even)
        self.assertIn(both.witness(), third)

    def test_made_of_layers(self):
        told = [columns(2), columns(3), columns(2, 4)]
        found = Places(told)
        told.append(columns(5))
        self.assertEqual(found.layers, (columns(2), columns(3)))
        self.assertEqual(Places(layers=(columns(2),)).layers, (columns(2),))
        six = [columns(width) for width in range(2, 8)]
        self.assertEqual(Places(six + six).layers, tuple(six))
        with self.assertRaises(TooMany) as caught:
            Places(six + [columns(8)])
        self.assertEqual(caught.exception.most, 6)
        # Layers of a union play a part, whatever the others hold.
        self.assertEqual(Places([columns(1), columns(2)]).layers, (columns(1), columns(2)))

    def test_empty(self):
        for found in (Places(), Places([]), Places(layers=()), Places([columns(2)]) - Places([columns(2)])):
            self.assertEqual((found.layers, found.patterns(), found.witness()), ((), [], None))
            self.assertIsInstance(found.thick(), Ratio)
            self.assertEqual(found.thick(), 0)
            self.assertIs(bool(found), False)
            self.assertNotIn(Point(0, 0), found)
            self.assertTrue(found == Places())
            self.assertTrue(found.inside(Places()) and found.inside(Places([columns(9)])))
            self.assertTrue(found.shifted(Point(1, 1)) == found)
        self.assertFalse(Places([columns(9)]).inside(Places()))
        # Its layers play a part, but they have no point in common.
        apart = Places([columns(2)]) & Places([columns(2, 1)])
        self.assertEqual((len(apart.layers), apart.patterns(), apart.thick()), (2, [], 0))
        self.assertTrue(apart == Places() and Places() == apart)
        self.assertIs(bool(apart), False)

    def test_new_lists(self):
        found = Places([columns(2), columns(3)])
        found.patterns().clear()
        self.assertEqual([indexes for indexes, _ in found.patterns()], [(0,), (1,), (0, 1)])

    def test_other_classes(self):
        found = Places([columns(2)])
        for value in no_points() + [columns(2), (columns(2),), Places]:
            self.assertFalse(found == value)
            self.assertTrue(found != value)

    def test_parts_in_the_middle(self):
        a, b, c = [Places([columns(width)]) for width in (2, 3, 5)]
        self.assertEqual(((a | b) - b | b & c).layers, (columns(2), columns(3), columns(5)))
        self.assertEqual(((a ^ b) ^ a).layers, (columns(3),))
        self.assertEqual((a & (a | b)).layers, (columns(2),))
        self.assertEqual(((b ^ c) & a ^ a & c).layers, (columns(3), columns(2)))


class ManyLayersTest(unittest.TestCase):

    def test_more_than_six(self):
        one = Places([columns(12, first) for first in (0, 2, 4, 6, 8, 10)])
        other = Places([columns(6, 1), columns(6, 3), columns(6, 5)])
        even, odd = Places([columns(2)]), Places([columns(2, 1)])
        self.assertTrue(one == even and even == one)
        self.assertTrue(other == odd)
        self.assertFalse(one == other)
        for sign in ("|", "^", "&", "-"):
            with self.assertRaises(TooMany) as caught:
                made((sign, [0, 1, 2, 3, 4, 5], [6, 7, 8]), list(one.layers + other.layers))
            self.assertEqual(caught.exception.most, 6)
        twelve = Places([columns(24, first) for first in (1, 3, 5, 7, 9, 11)])
        self.assertTrue(twelve.inside(odd))
        self.assertFalse(odd.inside(twelve))
        self.assertFalse(twelve.inside(one))
        self.assertFalse(twelve == one)
        moved = one.moved(Motion([[1, 0], [Ratio(3, 7), HUNDRED]], Point(Ratio(1, 3), 0)))
        image = even.moved(Motion([[1, 0], [Ratio(3, 7), HUNDRED]], Point(Ratio(1, 3), 0)))
        self.assertTrue(moved == image and moved.inside(image) and image.inside(moved))

    def test_twelve_layers(self):
        one = Places([columns(12, first) for first in (0, 2, 4, 6, 8, 10)])
        thirds = [Layer(Point(first, height), Lattice.oblong(6, 2)) for first in (0, 2, 4) for height in (0, 1)]
        other = Places(thirds)
        self.assertTrue(one == other)
        self.assertTrue(other.inside(one))
        less = Places(thirds[:5])
        self.assertFalse(one == less)
        self.assertTrue(less.inside(one))
        self.assertFalse(one.inside(less))

    def test_enough_play_no_part(self):
        layers = [columns(width) for width in (2, 3, 5, 7, 11, 13, 17)]
        first, second = Places(layers[:6]), Places(layers[1:])
        self.assertEqual((Places(layers[:4]) | Places(layers[2:6])).layers, tuple(layers[:6]))
        with self.assertRaises(TooMany):
            first | second
        # Six layers of the one, each of them with or without what the other one adds to none of them.
        part = Places(layers[:1]) & Places(layers[1:2])
        self.assertEqual((first | part).layers, tuple(layers[:6]))
        seven = Places(layers[6:])
        with self.assertRaises(TooMany):
            first - seven
        self.assertEqual((first ^ first).layers, ())
        self.assertEqual(((first ^ first) | seven).layers, (layers[6],))

    def test_random_twelve(self):
        draw = Draw(71)
        for _ in range(40):
            layers = draw.small_layers(9)
            one = drawn(draw, layers[:5], 3)
            other = drawn(draw, layers[4:], 3)
            sets = made(one, layers), made(shift(other, 4), layers)
            points = walked(one, layers, SIZE), walked(shift(other, 4), layers, SIZE)
            self.assertIs(sets[0] == sets[1], points[0] == points[1])
            self.assertIs(sets[0].inside(sets[1]), points[0] <= points[1])
            self.assertIs(sets[1].inside(sets[0]), points[1] <= points[0])
            self.check_operators((one, shift(other, 4)), layers)

    def check_operators(self, told, layers):
        for sign in "|&-^":
            both = (sign, told[0], told[1])
            if len(named(both)) > 6:
                with self.assertRaises(TooMany):
                    made(both, layers)
            else:
                self.assertEqual(list(made(both, layers).layers), [layers[index] for index in named(both)])


def shift(told, by):
    """An expression with other indexes."""
    if isinstance(told, list):
        return [index + by for index in told]
    return told[0], shift(told[1], by), shift(told[2], by)


class LongNumbersTest(unittest.TestCase):

    def test_free_remainders(self):
        """Oblongs whose sides have no common divisor: each layer holds its share of what others leave."""
        draw = Draw(72)
        base = 10 ** 49
        sides = [base + offset for offset in (9, 31, 37, 69, 121, 133, 139, 187, 271, 297, 319, 339)]
        sides = [side for at, side in enumerate(sides) if coprime(side, sides[:at])]
        for many in range(1, min(6, len(sides) // 2) + 1):
            cells = [sides[2 * at] * sides[2 * at + 1] for at in range(many)]
            layers = [
                Layer(Point(draw.integer(base), draw.integer(base)), Lattice.oblong(sides[2 * at], sides[2 * at + 1]))
                for at in range(many)
            ]
            told = drawn(draw, layers, 4)
            while not named(told):
                told = drawn(draw, layers, 4)
            found = made(told, layers)
            names = named(told)
            expected = {}
            for pattern in patterns(names):
                if holds(told, pattern):
                    thick = Fraction(1)
                    for index in names:
                        thick *= Fraction(1, cells[index]) if index in pattern else 1 - Fraction(1, cells[index])
                    expected[tuple(names.index(index) for index in sorted(pattern, key=names.index))] = thick
            told = {indexes: fraction(thick) for indexes, thick in found.patterns()}
            self.assertEqual(told, expected)
            self.assertEqual(fraction(found.thick()), sum(expected.values()))
            self.assertIn(found.witness(), found)

    def test_slanted(self):
        """Small sets under a motion with long numbers stay what they were."""
        draw = Draw(73)
        motion = Motion([[HUNDRED + 7, Ratio(HUNDRED, 3)], [Ratio(5, HUNDRED + 1), -HUNDRED]], Point(Ratio(1, HUNDRED), 7))
        for _ in range(10):
            layers = draw.small_layers(6)
            told = drawn(draw, layers, 4)
            found = made(told, layers)
            image = made(told, [layer.moved(motion) for layer in layers])
            self.assertEqual(image.thick() * abs(motion.factor()), found.thick())
            self.assertEqual([one for one, _ in image.patterns()], [one for one, _ in found.patterns()])
            self.assertTrue(image == found.moved(motion))
            if found:
                self.assertIn(image.witness(), image)
                self.assertIn((~motion)(image.witness()), found)

    def test_long_unlike_numbers(self):
        draw = Draw(74)
        layers = [
            Layer(Point(0, 0), Lattice([draw.point(10 ** 120), draw.point(10 ** 120)])) for _ in range(12)
        ]
        one, other = Places(layers[:6]), Places(layers[6:])
        self.assertFalse(one == other)
        self.assertFalse(one.inside(other))
        self.assertIn(one.witness(), one)
        self.assertEqual(len(one.patterns()), 63)


class PartedTest(unittest.TestCase):
    """A layer that is parted again and again, by other parts each time, also with numbers of 28 figures."""

    size = 36

    def setUp(self):
        self.draw = Draw(75)

    def parts(self, layer, many):
        u, v = layer.lattice.rows()
        kind = self.draw.random.randrange(3)
        if kind == 0:
            return [Layer(layer.point + u * at, Lattice([u * many, v])) for at in range(many)]
        lean = self.draw.random.randint(0, many) if kind == 1 else 0
        return [Layer(layer.point + v * at, Lattice([u + v * lean, v * many])) for at in range(many)]

    def fits(self, layer):
        """Whether the layer repeats by (36, 0) and (0, 36), as the walk asks for."""
        return Point(self.size, 0) in layer.lattice and Point(0, self.size) in layer.lattice

    def pool(self):
        """A layer, its parts, and parts of some of these."""
        found = [columns(1)]
        while len(found) < 14:
            parts = self.parts(self.draw.random.choice(found), self.draw.random.choice([2, 3, 4, 6]))
            if all(self.fits(part) for part in parts):
                found.extend(part for part in parts if part not in found)
        return found

    def test_other_parts(self):
        motion = Motion([[10 ** 28 + 9, Ratio(10 ** 28, 7)], [3, 10 ** 28 - 1]], Point(Ratio(1, 3), 10 ** 27))
        equal, inside, unlike = 0, 0, 0
        for round_ in range(50):
            pool = self.pool()
            told, sets = [], []
            for _ in range(6):
                layers = self.draw.random.sample(pool, self.draw.random.randint(1, 6))
                moved = [layer.moved(motion) for layer in layers] if round_ % 2 else layers
                expression = drawn(self.draw, layers, self.draw.random.choice([0, 0, 1, 2]))
                expression = list(range(len(layers))) if isinstance(expression, list) else expression
                told.append(walked(expression, layers, self.size))
                sets.append(made(expression, moved))
            for one, first in zip(told, sets):
                self.assertEqual(first.thick() * (abs(motion.factor()) if round_ % 2 else 1), Ratio(len(one), self.size ** 2))
                for other, second in zip(told, sets):
                    self.assertIs(first == second, one == other)
                    self.assertIs(first.inside(second), one <= other)
                    equal += one == other
                    inside += one < other
                    unlike += len(one) == len(other) and one != other
        self.assertGreater(equal, 310)
        self.assertGreater(inside, 100)
        self.assertGreater(unlike, 10)

    def test_two_ways(self):
        """Four to six parts in two ways, all of them, and without one of them."""
        for many in (4, 5, 6):
            for factor in (1, 10 ** 28 + 57, Ratio(1, 10 ** 28 + 57)):
                rows = [Layer(Point(0, at), Lattice([Point(1, 0), Point(0, many)])) * factor for at in range(many)]
                sides = [Layer(Point(at, 0), Lattice([Point(many, 0), Point(0, 1)])) * factor for at in range(many)]
                self.assertTrue(Places(rows) == Places(sides))
                self.assertTrue(Places(rows).inside(Places(sides)) and Places(sides).inside(Places(rows)))
                self.assertFalse(Places(rows) != Places(sides))
                self.assertFalse(Places(rows[1:]) == Places(sides[1:]))
                self.assertFalse(Places(rows[1:]).inside(Places(sides[1:])))
                self.assertTrue(Places(rows[1:]).inside(Places(sides)))
                self.assertTrue(Places(rows[:2]) | Places(rows[2:]) == Places(sides[:3]) | Places(sides[3:]))
                whole = Places([columns(1) * factor])
                self.assertTrue(whole - Places(rows[:2]) == Places(rows[2:]))
                self.assertFalse(whole - Places(rows[:2]) == whole - Places(sides[:2]))
                self.assertTrue(whole - Places(sides[:1]) ^ Places(sides[:1]) == Places(rows))

    def test_wider_layers(self):
        """Layers within layers, of six sets of parts that are in no way alike."""
        sizes = ((2, 3), (3, 5), (5, 7), (7, 11), (11, 13), (13, 2))
        wide = [Layer(Point(0, 0), Lattice.oblong(width, height)) for width, height in sizes]
        narrow = [Layer(Point(0, 0), Lattice.oblong(width * 17, height)) for width, height in sizes]
        for motion in (Motion([[1, 0], [0, 1]]), Motion([[10 ** 28, 7], [Ratio(1, 3), 10 ** 28 + 1]], Point(5, 5))):
            one, other = [Places([layer.moved(motion) for layer in layers]) for layers in (narrow, wide)]
            self.assertTrue(one.inside(other))
            self.assertFalse(other.inside(one))
            self.assertFalse(one == other)
            self.assertFalse(other == other.shifted(motion(Point(1, 1)) - motion(Point(0, 0))))
            mixed = Places([one.layers[0], other.layers[0], one.layers[1], other.layers[2]])
            self.assertTrue(mixed == Places([other.layers[0], other.layers[2], one.layers[1]]))
            part = Places([other.layers[0], other.layers[2], one.layers[1]])
            self.assertTrue(one.inside(part | Places([other.layers[3], other.layers[5], one.layers[4]])))
            self.assertFalse(one.inside(part | Places([other.layers[3], other.layers[5]])))


def coprime(number, others):
    """True if a number has no common divisor with others."""
    return all(Ratio(number, other).bottom == other for other in others)


class FormalTest(unittest.TestCase):

    def test_layers_of_all_tables(self):
        """All sets of the patterns of two layers, by what plays a part."""
        a, b = columns(2), columns(3)
        one, other = Places([a]), Places([b])
        for told, expected in [
            (one | other, (a, b)), (one & other, (a, b)), (one - other, (a, b)), (other - one, (b, a)),
            (one ^ other, (a, b)), (one | one, (a,)), (one - one, ()), ((one | other) & one, (a,)),
            ((one & other) | other, (b,)), ((one - other) ^ one, (a, b)), ((one - other) | (one & other), (a,)),
        ]:
            self.assertEqual(told.layers, expected)


if __name__ == "__main__":
    unittest.main()
