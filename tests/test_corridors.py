"""[43], [73]: corridors, and the places of sets in them."""

import unittest
from fractions import Fraction

from overfloors.corridors import Corridor
from overfloors.errors import BadNumber, Flat, NoWidth, TooMany
from overfloors.lattices import Lattice
from overfloors.layers import Layer
from overfloors.motions import Motion
from overfloors.places import Places
from overfloors.points import Point
from overfloors.ratios import Ratio
from drawn import HUNDRED, Draw, columns, fraction, no_integers, pair
from expressions import drawn, made
from search import box, point_of

FLAT = Corridor(Point(1, 0), Point(0, 1), 0, 1)


def figures(corridor, x, y):
    """The fractions s and t of a point, by areas."""
    (a, b), (c, d) = pair(corridor.along), pair(corridor.across)
    area = a * d - b * c
    return (x * d - y * c) / area, (a * y - b * x) / area


def steps_between(corridor, layer, first, last):
    """The quadruples (s, t, x, y) of the places of a layer in a corridor with first <= s <= last, ascending."""
    (a, b), (c, d) = pair(corridor.along), pair(corridor.across)
    low, high = fraction(corridor.low), fraction(corridor.high)
    corners = [(s * a + t * c, s * b + t * d) for s in (first, last) for t in (low, high)]
    sides = [min(x for x, _ in corners), max(x for x, _ in corners), min(y for _, y in corners), max(y for _, y in corners)]
    found = []
    for x, y in box(layer, *sides):
        s, t = figures(corridor, x, y)
        if first <= s <= last and low <= t < high:
            found.append((s, t, x, y))
    return sorted(found)


def walk(corridor, found, first, last):
    """The points of a set in a corridor with first <= s <= last, in their order, with their steps."""
    places = {place for layer in found.layers for place in steps_between(corridor, layer, first, last)}
    points = [(s, point_of(x, y)) for s, _, x, y in sorted(places)]
    return [(s, point) for s, point in points if point in found]


def ratio(number):
    return Ratio(number.numerator, number.denominator)


class CorridorTest(unittest.TestCase):

    def test_example(self):
        even, third = Places([columns(2)]), Places([columns(3, 1)])
        self.assertEqual(FLAT.next_from(even & third, 5), Point(10, 0))
        self.assertEqual(FLAT.kth(even & third, 0, 10 ** 30), Point(6 * 10 ** 30 + 4, 0))
        self.assertEqual(FLAT.share(even | third), Ratio(2, 3))
        slanted = Layer(Point(0, 0), Lattice([Point(1, 2), Point(0, 5)]))
        gaps = Corridor(Point(1, 0), Point(0, 1), 0, 2).gaps(slanted)
        self.assertEqual(gaps, [(Ratio(2), Ratio(1, 5)), (Ratio(3), Ratio(1, 5))])

    def test_attributes(self):
        corridor = Corridor(high=Ratio(7, 2), low=-1, across=Point(1, 2), along=Point(3, 1))
        self.assertEqual((corridor.along, corridor.across), (Point(3, 1), Point(1, 2)))
        self.assertEqual((corridor.low, corridor.high), (-1, Ratio(7, 2)))
        self.assertIsInstance(corridor.low, Ratio)
        self.assertIsInstance(corridor.high, Ratio)
        self.assertTrue(corridor == corridor)
        self.assertFalse(corridor == Corridor(Point(3, 1), Point(1, 2), -1, Ratio(7, 2)))

    def test_flat_and_no_width(self):
        for along, across in [(Point(1, 2), Point(-2, -4)), (Point(0, 0), Point(1, 1)), (Point(1, 1), Point(0, 0))]:
            for low, high in [(0, 1), (1, 0)]:
                with self.assertRaises(Flat):
                    Corridor(along, across, low, high)
        for low, high in [(1, 1), (2, 1), (0, 0), (Ratio(1, HUNDRED), 0), (Ratio(1, 3), Ratio(1, 3))]:
            with self.assertRaises(NoWidth):
                Corridor(Point(1, 0), Point(1, 1), low, high)

    def test_steps(self):
        draw = Draw(100)
        for size in (3, HUNDRED):
            for _ in range(40):
                along, across = draw.base(size)
                low = draw.ratio(size)
                corridor = Corridor(along, across, low, low + Ratio(1, size))
                for s, t in [(draw.ratio(size), draw.ratio(5)), (draw.ratio(size), low), (0, low + Ratio(1, 2 * size)),
                             (1, low + Ratio(1, size)), (draw.ratio(9), low - Ratio(1, size ** 2))]:
                    point = along * s + across * t
                    step = corridor.step_of(point=point)
                    self.assertIsInstance(step, Ratio)
                    self.assertEqual(step, s)
                    self.assertIs(point in corridor, low <= t < low + Ratio(1, size))


class PlacesTest(unittest.TestCase):
    """Places in a corridor, against a walk."""

    def drawn(self, draw):
        layers = draw.small_layers(draw.random.randint(1, 3), (1, 2, 3, 4, 6))
        if draw.random.random() < 0.5:
            a, b = draw.base(2)
            layers = [layer.moved(Motion([[a.x, b.x], [a.y, b.y]])) for layer in layers]
        along, across = draw.base(3)
        low = draw.ratio(4)
        width = draw.random.choice([Ratio(1, 5), Ratio(1), Ratio(5, 2), Ratio(4)])
        return Corridor(along, across, low, low + width), made(drawn(draw, layers, 2), layers)

    def test_walk(self):
        draw = Draw(101)
        empty = 0
        for _ in range(120):
            corridor, found = self.drawn(draw)
            first = Fraction(draw.integer(12), draw.random.randint(1, 4))
            share = corridor.share(found)
            self.assertIsInstance(share, Ratio)
            if not share:
                self.assertIsNone(corridor.next_from(found, ratio(first)))
                self.assertIsNone(corridor.kth(found, 0, 10 ** 30))
                self.assertEqual(corridor.amount(found, -10 ** 9, 10 ** 9), 0)
                self.assertEqual(walk(corridor, found, first, first + 20), [])
                empty += 1
                continue
            places = walk(corridor, found, first, first + 20)
            for index in {0, 1, 2, len(places) // 2, len(places) - 1}:
                if 0 <= index < len(places):
                    self.assertEqual(corridor.kth(found, ratio(first), index), places[index][1])
            if places:
                self.assertEqual(corridor.next_from(places=found, first=ratio(first)), places[0][1])
                self.assertEqual(corridor.next_from(found, corridor.step_of(places[-1][1])),
                                 [point for step, point in places if step == places[-1][0]][0])
            last = first + Fraction(draw.integer(20), 3)
            expected = len([1 for step, _ in places if step < last]) if last < first + 20 else None
            if expected is not None:
                self.assertEqual(corridor.amount(places=found, first=ratio(first), last=ratio(last)), expected)
        self.assertLess(empty, 80)

    def test_laps(self):
        """The walk repeats itself, 10 ** 28 laps far off on both sides as well."""
        draw = Draw(102)
        for _ in range(60):
            corridor, found = self.drawn(draw)
            share = corridor.share(found)
            if not share:
                continue
            lap = self.lap(corridor, found)
            many = corridor.amount(found, 0, lap)
            self.assertEqual(share * lap, many)
            for start in (Ratio(0), Ratio(-5, 3)):
                near = [corridor.kth(found, start, number) for number in (0, 1, many - 1)]
                for laps in (1, -1, 10 ** 28, -10 ** 28):
                    far = [corridor.kth(found, start + lap * laps, number) for number in (0, 1, many - 1)]
                    self.assertEqual([point - corridor.along * (lap * laps) for point in far], near)
                    self.assertEqual(corridor.amount(found, start + lap * laps, start + lap * (laps + 3)), 3 * many)
                for number in (0, many - 1):
                    ahead = corridor.kth(found, start, 10 ** 28 * many + number)
                    self.assertEqual(ahead, corridor.kth(found, start, number) + corridor.along * (lap * 10 ** 28))

    def lap(self, corridor, found):
        """A step by which the set repeats itself."""
        lap = Ratio(1)
        for layer in found.layers:
            lap = lap * layer.lattice.order(corridor.along * lap)
        return lap

    def test_ties(self):
        """Places of one step follow one another by t, however many they are."""
        unit = Places([columns(1)])
        high = Corridor(Point(1, 0), Point(0, 1), -7, 10 ** 40)
        per = 10 ** 40 + 7
        for number in (0, 1, 10 ** 20, per - 1, per, per * 10 ** 18 + 5):
            self.assertEqual(high.kth(unit, Ratio(1, 2), number), Point(1 + number // per, number % per - 7))
        down = Corridor(Point(1, 1), Point(0, -2), 0, 10 ** 40)
        self.assertEqual(down.next_from(unit, 3), Point(3, 3))
        self.assertEqual(down.kth(unit, 3, 10 ** 20), Point(3, 3 - 10 ** 20))
        odd = Places([Layer(Point(0, 1), Lattice.oblong(1, 2))])
        self.assertEqual(down.kth(unit - odd, 3, 10 ** 20), Point(3, 2 - 2 * 10 ** 20))

    def test_clumps(self):
        """Places that stand close together, then none for long."""
        steep = Places([Layer(Point(0, 0), Lattice([Point(1, 10 ** 20), Point(0, 10 ** 50)]))])
        corridor = Corridor(Point(1, 0), Point(0, 1), 0, 10 ** 25)
        # 10 ** 5 columns in a row, then nothing up to 10 ** 30.
        self.assertEqual(corridor.kth(steep, 0, 10 ** 5 - 1), Point(10 ** 5 - 1, 10 ** 25 - 10 ** 20))
        self.assertEqual(corridor.kth(steep, 0, 10 ** 5), Point(10 ** 30, 0))
        self.assertEqual(corridor.next_from(steep, 10 ** 5), Point(10 ** 30, 0))
        self.assertEqual(corridor.kth(steep, 7, 10 ** 25), Point(10 ** 50 + 7, 7 * 10 ** 20))
        self.assertEqual(corridor.share(steep), Ratio(1, 10 ** 25))

    def test_covered_for_long(self):
        """A set that begins only where what is taken out has ended."""
        line = Layer(Point(0, 0), Lattice.oblong(1, 10 ** 30))
        others = Layer(Point(0, 0), Lattice([Point(2, 10 ** 30), Point(0, 3 * 10 ** 30)]))
        found = Places([line]) - Places([others])
        corridor = Corridor(Point(1, 0), Point(0, 1), 0, 1)
        # On this line the others hold each sixth place.
        self.assertEqual([corridor.kth(found, 0, number) for number in range(6)], [Point(at, 0) for at in (1, 2, 3, 4, 5, 7)])
        sparse = Places([columns(1)]) & Places([Layer(Point(5, 0), Lattice.oblong(10 ** 40, 10 ** 40))])
        self.assertEqual(corridor.next_from(sparse, 6), Point(10 ** 40 + 5, 0))
        self.assertIsNone(Corridor(Point(1, 0), Point(0, 1), 1, 10 ** 40).next_from(sparse, 6))

    def test_many_layers(self):
        """share and amount take six layers, next_from and kth up to three."""
        layers = [columns(width) for width in (2, 3, 5, 7, 11, 13)]
        found = Places(layers)
        self.assertEqual(FLAT.amount(found, 0, 30030), 30030 - 1 * 2 * 4 * 6 * 10 * 12)
        self.assertEqual(FLAT.share(found), Ratio(30030 - 5760, 30030))
        for many in (4, 5, 6):
            for number in [0, -1, "x", None, True]:
                with self.assertRaises(TooMany) as caught:
                    FLAT.kth(Places(layers[:many]), 0, number)
                self.assertEqual(caught.exception.most, 3)
            with self.assertRaises(TooMany) as caught:
                FLAT.next_from(Places(layers[:many]), 0)
            self.assertEqual(caught.exception.most, 3)
        self.assertEqual(FLAT.next_from(Places(layers[:3]), 1), Point(2, 0))

    def test_wrong_numbers(self):
        for value in no_integers() + [-1, -HUNDRED, Ratio(2), Ratio(1, 2)]:
            for found in (Places([columns(2)]), Places()):
                with self.assertRaises(BadNumber) as caught:
                    FLAT.kth(found, 0, value)
                self.assertIs(caught.exception.value, value)
        self.assertEqual(FLAT.kth(number=3, first=Ratio(1, 2), places=Places([columns(2)])), Point(8, 0))

    def test_empty(self):
        self.assertIsNone(FLAT.next_from(Places(), 0))
        self.assertIsNone(FLAT.kth(Places(), 0, 5))
        self.assertEqual((FLAT.share(Places()), FLAT.amount(Places(), 0, 9)), (0, 0))
        self.assertIsInstance(FLAT.share(Places()), Ratio)
        even = Places([columns(2)])
        self.assertEqual((FLAT.amount(even, 4, 4), FLAT.amount(even, 6, 2)), (0, 0))
        self.assertIsNone(Corridor(Point(1, 0), Point(0, 1), Ratio(1, 3), Ratio(2, 3)).next_from(even, 0))

    def test_limits(self):
        """Numbers of 60 figures, and of 80 over one common bottom."""
        draw = Draw(103)
        for bottom in (None, 10 ** 80 + 129, 10 ** 600 + 7):
            def point():
                if bottom is None:
                    return draw.point(10 ** 60 - 1)
                return Point(Ratio(draw.integer(10 ** 80), bottom), Ratio(draw.integer(10 ** 80), bottom))

            one, other, third = [Places([Layer(point(), Lattice([point(), point()]))]) for _ in range(3)]
            low = point()
            corridor = Corridor(point(), point(), min_of(low), max_of(low))
            first = point().x
            for found in (one, one | other | third, (one - other) ^ third):
                for number in (0, 1, 10 ** 59):
                    self.check_place(corridor, found, first, number)

    def check_place(self, corridor, found, first, number):
        place = corridor.kth(found, first, number)
        if place is None:
            self.assertEqual(corridor.share(found), 0)
            return
        self.assertIn(place, found)
        self.assertIn(place, corridor)
        step = corridor.step_of(place)
        self.assertGreaterEqual(step, first)
        self.assertEqual(corridor.amount(found, first, step), number)


def min_of(point):
    return point.x if point.x < point.y else point.y


def max_of(point):
    return point.y if point.x < point.y else point.x


class GapsTest(unittest.TestCase):

    def expected(self, corridor, layer):
        """The gaps in one lap, by a walk."""
        lap = fraction(Ratio(layer.lattice.order(corridor.along)))
        steps = sorted({s for s, _, _, _ in steps_between(corridor, layer, Fraction(0), lap)})
        steps = [step for step in steps if step < lap]
        counts = {}
        for at, step in enumerate(steps):
            after = steps[at + 1] if at + 1 < len(steps) else steps[0] + lap
            counts[after - step] = counts.get(after - step, 0) + 1
        return [(gap, counts[gap] / lap) for gap in sorted(counts)]

    def test_walk(self):
        draw = Draw(104)
        lengths = {}
        for _ in range(150):
            layer = Layer(draw.point(3), draw.narrow_lattice(draw.random.choice([5, 7, 12, 29, 60])))
            along = Point(draw.random.randint(1, 2), draw.integer(1))
            across = Point(Ratio(draw.integer(3), 2), draw.random.randint(2, 3))
            if not along.x * across.y - along.y * across.x:
                continue
            low = draw.ratio(3)
            width = draw.random.choice([Ratio(1, 9), Ratio(1, 2), Ratio(1), Ratio(7, 3), Ratio(3), Ratio(5), Ratio(11)])
            corridor = Corridor(along, across, low, low + width)
            gaps = corridor.gaps(layer=layer)
            for pair_ in gaps:
                self.assertIsInstance(pair_, tuple)
                self.assertIsInstance(pair_[0], Ratio)
                self.assertIsInstance(pair_[1], Ratio)
            self.assertEqual([(fraction(gap), fraction(share)) for gap, share in gaps], self.expected(corridor, layer))
            lengths[len(gaps)] = lengths.get(len(gaps), 0) + 1
        self.assertEqual(sorted(lengths), [0, 1, 2, 3])

    def test_long(self):
        """At most three gaps, the greatest one the sum of the others; their shares fill the corridor."""
        draw = Draw(105)
        lengths = {}
        for _ in range(100):
            layer = Layer(draw.point(10 ** 30), draw.lattice(10 ** 30))
            along, across = draw.base(10 ** 20)
            low, width = draw.ratio(10 ** 10), abs(draw.ratio(10 ** 12)) + Ratio(1, 10 ** 12)
            corridor = Corridor(along, across, low, low + width)
            gaps = corridor.gaps(layer)
            self.assertLessEqual(len(gaps), 3)
            if len(gaps) == 3:
                self.assertEqual(gaps[2][0], gaps[0][0] + gaps[1][0])
            self.assertEqual(gaps, [gaps[at] for at in sorted(range(len(gaps)), key=lambda at: fraction(gaps[at][0]))])
            if gaps:
                total, steps = Ratio(0), Ratio(0)
                for gap, share in gaps:
                    total, steps = total + gap * share, steps + share
                self.assertEqual(total, 1)
                self.assertLessEqual(steps, corridor.share(Places([layer])))
            lengths[len(gaps)] = 1
            self.follow(corridor, layer, [gap for gap, _ in gaps])
        self.assertIn(3, lengths)

    def follow(self, corridor, layer, gaps):
        """Places that follow one another are told gaps apart."""
        found = Places([layer])
        if not gaps:
            self.assertEqual(corridor.share(found), 0)
            return
        places = [corridor.kth(found, 0, number) for number in range(4)]
        steps = [corridor.step_of(place) for place in places]
        for one, other in zip(steps, steps[1:]):
            self.assertTrue(one == other or other - one in gaps)

    def test_edges(self):
        corridor = Corridor(Point(1, 0), Point(0, 1), 0, 1)
        # In each column one place, then several of them, then one in each second column.
        self.assertEqual(corridor.gaps(columns(3, 1)), [(Ratio(3), Ratio(1, 3))])
        self.assertEqual(corridor.gaps(Layer(Point(0, 0), Lattice.oblong(3, Ratio(1, 9)))), [(Ratio(3), Ratio(1, 3))])
        self.assertEqual(corridor.gaps(Layer(Point(0, 0), Lattice([Point(1, 1), Point(0, 2)]))), [(Ratio(2), Ratio(1, 2))])
        self.assertEqual(corridor.gaps(Layer(Point(0, Ratio(1, 2)), Lattice.square(HUNDRED))), [(Ratio(HUNDRED), Ratio(1, HUNDRED))])
        self.assertEqual(corridor.gaps(Layer(Point(0, 1), Lattice.square(2))), [])
        # Three columns in a row out of ten, and five out of ten that go down.
        up = Layer(Point(0, 0), Lattice([Point(1, 1), Point(0, 10)]))
        self.assertEqual(Corridor(Point(1, 0), Point(0, 1), 0, 3).gaps(up), [(Ratio(1), Ratio(1, 5)), (Ratio(8), Ratio(1, 10))])
        down = Layer(Point(0, 0), Lattice([Point(1, 9), Point(0, 10)]))
        self.assertEqual(Corridor(Point(1, 0), Point(0, 1), 0, 5).gaps(down), [(Ratio(1), Ratio(2, 5)), (Ratio(6), Ratio(1, 10))])
        gaps = corridor.gaps(columns(2))
        gaps.clear()
        self.assertEqual(len(corridor.gaps(columns(2))), 1)


if __name__ == "__main__":
    unittest.main()
