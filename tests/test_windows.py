"""[42], [72]: windows, and how many places of a set they hold."""

import unittest

from overfloors.lattices import Lattice
from overfloors.layers import Layer
from overfloors.motions import Motion
from overfloors.places import Places
from overfloors.points import Point
from overfloors.ratios import Ratio
from overfloors.windows import Trail, View, Window, count_in, floor_sum
from drawn import HUNDRED, Draw, columns, fraction, no_points
from expressions import drawn, made
from search import box, point_of


def walk(found, layers, window):
    """The number of places of a set of layers in a window, one by one."""
    left, right, low, high = [fraction(side) for side in (window.left, window.right, window.low, window.high)]
    points = {point for layer in layers for point in box(layer, left, right, low, high)}
    return len([1 for x, y in points if x < right and y < high and point_of(x, y) in found])


class WindowTest(unittest.TestCase):

    def test_attributes_and_points(self):
        window = Window(1, Ratio(7, 2), right_low := Ratio(-3), 4)
        sides = (window.left, window.right, window.low, window.high)
        self.assertEqual(sides, (1, Ratio(7, 2), right_low, 4))
        for side in sides:
            self.assertIsInstance(side, Ratio)
        for point, expected in [
            (Point(1, -3), True), (Point(Ratio(7, 2), 0), False), (Point(2, 4), False), (Point(1, Ratio(39, 10)), True),
            (Point(Ratio(9, 10), 0), False), (Point(2, Ratio(-31, 10)), False), (Point(Ratio(34, 10), -3), True),
        ]:
            self.assertIs(point in window, expected)
        named = Window(high=4, low=-3, right=Ratio(7, 2), left=Ratio(1))
        self.assertTrue(named == window)
        self.assertFalse(named != window)

    def test_equal(self):
        window = Window(1, 2, 3, 4)
        for other in (Window(0, 2, 3, 4), Window(1, 3, 3, 4), Window(1, 2, 0, 4), Window(1, 2, 3, 5)):
            self.assertFalse(window == other)
            self.assertTrue(window != other)
        for value in no_points() + [(1, 2, 3, 4), columns(2)]:
            self.assertFalse(window == value)
        # Empty windows are told apart by their numbers, too.
        self.assertFalse(Window(1, 1, 0, 0) == Window(2, 2, 0, 0))

    def test_example(self):
        even, third = Places([columns(2)]), Places([columns(3, 1)])
        self.assertEqual(count_in(even | third, Window(0, 6, 0, 1)), 4)
        self.assertEqual(count_in(even, Window(0, 10 ** 30, 0, 10 ** 30)), 5 * 10 ** 59)
        self.assertEqual(count_in(even, Window(3, 3, 0, 1)), 0)
        self.assertIs(type(count_in(even, Window(3, 3, 0, 1))), int)
        self.assertEqual(count_in(window=Window(0, 6, 0, 1), places=even), 3)
        self.assertEqual(count_in(Places(), Window(0, 6, 0, 1)), 0)


class CountTest(unittest.TestCase):

    def test_floor_sums(self):
        draw = Draw(90)
        for _ in range(500):
            many, bottom = draw.random.randint(-2, 12), draw.random.randint(1, 15)
            start, step = draw.integer(30), draw.integer(30)
            self.assertEqual(floor_sum(many, start, step, bottom), sum((start + step * i) // bottom for i in range(many)))

    def window(self, draw, layers):
        """A window with sides on places and between them, perhaps an empty one."""
        sides = []
        for axis in ("x", "y"):
            for _ in range(2):
                point = getattr(draw.random.choice(layers).point, axis) + draw.integer(6)
                sides.append(draw.random.choice([point, draw.ratio(7), Ratio(draw.integer(8))]))
        if draw.random.random() < 0.8:
            for at in (0, 2):
                if sides[at] > sides[at + 1]:
                    sides[at], sides[at + 1] = sides[at + 1], sides[at]
        return Window(*sides)

    def test_small_windows(self):
        draw = Draw(91)
        empty = 0
        for _ in range(200):
            layers = [draw.layer(3) for _ in range(draw.random.randint(1, 3))]
            if draw.random.random() < 0.5:
                layers = draw.small_layers(draw.random.randint(1, 6))
            found = made(drawn(draw, layers, 3), layers)
            window = self.window(draw, layers)
            expected = walk(found, found.layers, window)
            self.assertEqual(count_in(found, window), expected)
            empty += window.left >= window.right or window.low >= window.high
        self.assertGreater(empty, 10)

    def test_sides_on_a_place(self):
        """A place on the left or lower side counts, one on the right or upper side does not."""
        draw = Draw(92)
        for size in (3, HUNDRED):
            for _ in range(20):
                layer = Layer(draw.point(size), draw.lattice(size))
                point, small = layer.point + draw.member(layer.lattice, size), Ratio(1, size ** 9)
                x, y = point.x, point.y
                for window, expected in [
                    (Window(x, x + small, y, y + small), 1), (Window(x - small, x, y, y + small), 0),
                    (Window(x, x + small, y - small, y), 0), (Window(x - small, x + small, y - small, y + small), 1),
                    (Window(x + small, x, y, y + small), 0), (Window(x, x, y, y), 0), (Window(x, x + small, y + small, y), 0),
                ]:
                    self.assertEqual(count_in(Places([layer]), window), expected)


class TrailTest(unittest.TestCase):
    """Places of integers in a strip, against a walk."""

    def walk(self, grid, low, high, left, right):
        x, y, a, b, d = grid
        columns_ = [i for i in range(left, right) if (i - x) % a == 0]
        return [(i, j) for i in columns_ for j in range(low, high) if (j - y - (i - x) // a * b) % d == 0]

    def test_walk(self):
        draw = Draw(98)
        random = draw.random
        for _ in range(1500):
            d = random.choice([1, 2, random.randint(1, 30)])
            grid = (draw.integer(9), draw.integer(9), random.randint(1, 6), random.randrange(d), d)
            low = draw.integer(9)
            high, left = low + random.randint(1, 40), draw.integer(40)
            right = left + random.randint(0, 50)
            trail = Trail(grid, low, high)
            places = self.walk(grid, low, high, left, right)
            first, end = trail.index_at(left), trail.index_at(right)
            self.assertEqual(trail.places_between(first, end), places)
            self.assertEqual(trail.many_between(first, end), len(places))
            self.assertEqual((first, end), (trail.index_from(left, low), trail.index_from(right, low)))
            for x, y in places[:6] + places[-6:]:
                index = trail.index_from(x, y)
                self.assertEqual(trail.place(index), (x, y))
                self.assertLess(trail.place(trail.index_from(x, y + 1) - 1), (x, y + 1))
                self.assertGreaterEqual(trail.place(trail.index_from(x, y + 1)), (x, y + 1))
            wide = [trail.place(index) for index in range(first - 2, end + 3)]
            self.assertEqual(wide, sorted(set(wide)))

    def test_long(self):
        draw = Draw(99)
        random = draw.random
        for _ in range(300):
            a, d = [random.choice([1, 10 ** 20, random.randint(1, 10 ** 30)]) for _ in range(2)]
            grid = (draw.integer(10 ** 30), draw.integer(10 ** 30), a, random.choice([0, 1, random.randrange(d)]) % d, d)
            low = draw.integer(10 ** 30)
            trail = Trail(grid, low, low + random.choice([1, 10 ** 10, random.randint(1, 10 ** 40)]))
            for x in (draw.integer(10 ** 40), grid[0], draw.integer(9)):
                for y in (low, low + random.randint(0, 10 ** 40), draw.integer(10 ** 40)):
                    index = trail.index_from(x, y)
                    self.assertGreaterEqual(trail.place(index), (x, y))
                    self.assertLess(trail.place(index - 1), (x, y))

    def test_places_in(self):
        draw = Draw(100)
        for _ in range(60):
            layer = draw.layer(4)
            left, low = draw.ratio(5), draw.ratio(5)
            window = Window(left, left + abs(draw.ratio(3)), low, low + abs(draw.ratio(9)))
            found = walk_points(layer, window)
            view = View(layer, window)
            self.assertEqual([Point(Ratio(x, view.across), Ratio(y, view.upward)) for x, y in view.places()], found)
            self.assertEqual(count_in(Places([layer]), window), len(found))
        # A strip between the lines of a layer, as long as can be.
        rows = Layer(Point(0, 0), Lattice.square(1))
        self.assertEqual(View(rows, Window(-HUNDRED, HUNDRED, Ratio(1, 3), Ratio(2, 3))).places(), [])


def walk_points(layer, window):
    """The places of a layer in a window, one by one, in their order."""
    left, right, low, high = [fraction(side) for side in (window.left, window.right, window.low, window.high)]
    return [point_of(x, y) for x, y in sorted(box(layer, left, right, low, high)) if x < right and y < high]


class LongWindowTest(unittest.TestCase):

    def drawn(self, draw, size=10 ** 15):
        layers = [Layer(draw.whole_point(size), draw.whole_lattice(size)) for _ in range(3)]
        layers = [layer.moved(Motion([[Ratio(1, 7), 0], [0, Ratio(3, 5)]])) for layer in layers]
        return made(drawn(draw, layers, 3), layers)

    def window(self, draw, size=10 ** 30):
        left, low = draw.ratio(size), draw.ratio(size)
        return Window(left, left + abs(draw.integer(size)) + 1, low, low + abs(draw.integer(size)) + Ratio(1, 3))

    def test_cut_in_two(self):
        draw = Draw(93)
        for _ in range(40):
            found, window = self.drawn(draw), self.window(draw)
            whole = count_in(found, window)
            for part in (Ratio(1, 3), Ratio(abs(draw.integer(10 ** 20)), 10 ** 20)):
                x = window.left + (window.right - window.left) * part
                y = window.low + (window.high - window.low) * part
                left, right = Window(window.left, x, window.low, window.high), Window(x, window.right, window.low, window.high)
                low, high = Window(window.left, window.right, window.low, y), Window(window.left, window.right, y, window.high)
                self.assertEqual(count_in(found, left) + count_in(found, right), whole)
                self.assertEqual(count_in(found, low) + count_in(found, high), whole)

    def test_turned(self):
        draw = Draw(94)
        swap = Motion([[0, 1], [1, 0]])
        for _ in range(40):
            found, window = self.drawn(draw), self.window(draw)
            turned = Window(window.low, window.high, window.left, window.right)
            self.assertEqual(count_in(found.moved(swap), turned), count_in(found, window))

    def test_common_steps(self):
        draw = Draw(95)
        for _ in range(30):
            found, window = self.drawn(draw), self.window(draw)
            common = Lattice.square(1)
            for layer in found.layers:
                common = common & layer.lattice
            step = draw.member(common, 10 ** 9)
            moved = Window(window.left + step.x, window.right + step.x, window.low + step.y, window.high + step.y)
            self.assertEqual(count_in(found, moved), count_in(found, window))
            away = draw.point(10 ** 30)
            moved = Window(window.left + away.x, window.right + away.x, window.low + away.y, window.high + away.y)
            self.assertEqual(count_in(found.shifted(away), moved), count_in(found, window))

    def test_whole_cells(self):
        """Windows of whole common cells hold as many places as the thickness tells."""
        draw = Draw(96)
        for _ in range(30):
            layers = draw.small_layers(4)
            motion = Motion([[10 ** 17 + 3, 0], [0, Ratio(10 ** 16 + 1, 7)]], draw.point(10 ** 30))
            found = made(drawn(draw, layers, 3), layers).moved(motion)
            left, low = draw.ratio(10 ** 30), draw.ratio(10 ** 30)
            width = (10 ** 17 + 3) * 12 * draw.random.randint(1, 10 ** 13)
            height = Ratio(10 ** 16 + 1, 7) * 12 * draw.random.randint(1, 10 ** 13)
            expected = found.thick() * width * height
            self.assertEqual(count_in(found, Window(left, left + width, low, low + height)), expected)

    def test_hundreds_of_figures(self):
        draw = Draw(97)
        layers = [Layer(draw.point(HUNDRED), draw.lattice(HUNDRED)) for _ in range(6)]
        found = Places(layers)
        first, second = self.window(draw, 10 ** 300), self.window(draw, 10 ** 300)
        for window in (first, second):
            middle = (window.left + window.right) * Ratio(2, 5)
            if not window.left < middle < window.right:
                middle = (window.left + window.right) * Ratio(1, 2)
            parts = Window(window.left, middle, window.low, window.high), Window(middle, window.right, window.low, window.high)
            self.assertEqual(sum(count_in(found, part) for part in parts), count_in(found, window))


if __name__ == "__main__":
    unittest.main()
