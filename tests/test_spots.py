"""[45], [75]: what is seen of a floor from the points of a layer."""

import unittest
from fractions import Fraction

from overfloors.errors import TooMany
from overfloors.floors import Floor
from overfloors.lattices import Lattice
from overfloors.layers import Layer
from overfloors.motions import Motion
from overfloors.points import Point
from overfloors.ratios import Ratio
from overfloors.spots import spots
from overfloors.windows import Window
from drawn import HUNDRED, Draw, columns, fraction, places
from search import box, point_of

SIZE = 12


def floor_marks(floor, left, right, low, high):
    """The triples (x, y, letter) of a floor with left <= x < right and low <= y < high, ascending."""
    found = []
    for letter, layer in floor.laid:
        found += [(x, y, letter) for x, y in box(layer, left, right, low, high) if x < right and y < high]
    return sorted(found)


def seen_from(floor, window, x, y):
    """The picture that is seen from a point, in fractions."""
    left, right, low, high = [fraction(side) for side in (window.left, window.right, window.low, window.high)]
    marks = floor_marks(floor, x + left, x + right, y + low, y + high)
    return tuple((letter, one - marks[0][0], other - marks[0][1]) for one, other, letter in marks)


def told(found):
    """Pictures with thicknesses in fractions, and a check that the kinds of values are right."""
    pictures = {}
    for picture, thick in found:
        assert isinstance(picture, tuple) and isinstance(thick, Ratio)
        for triple in picture:
            assert isinstance(triple, tuple) and isinstance(triple[1], Ratio) and isinstance(triple[2], Ratio)
        key = tuple((letter, fraction(x), fraction(y)) for letter, x, y in picture)
        assert key not in pictures
        pictures[key] = fraction(thick)
    return pictures


def wide_window(floor, window):
    """The sides of the window whose marks are counted."""
    common = floor.laid[0][1].lattice
    for _, layer in floor.laid:
        common = common & layer.lattice
    sides = (window.left, window.right + common.a, window.low, window.high + common.d)
    return [fraction(side) for side in sides]


class SpotsTest(unittest.TestCase):

    def test_example(self):
        rows = Floor([("b", columns(3, 1))])
        seen = spots(columns(2), rows, Window(0, 1, 0, 1))
        self.assertEqual(len(seen), 2)
        self.assertEqual(told(seen), {(): Fraction(1, 3), (("b", 0, 0),): Fraction(1, 6)})
        self.assertEqual(told(spots(window=Window(0, 1, 0, 1), floor=rows, layer=columns(2))), told(seen))

    def test_no_layers(self):
        for layer in (columns(2), Layer(Point(1, 2), Lattice.square(Ratio(1, HUNDRED)))):
            self.assertEqual(spots(layer, Floor([]), Window(0, HUNDRED, 0, HUNDRED)), [((), layer.thickness)])

    def drawn(self, draw):
        """A floor, a layer and a window with sides on points and between them."""
        laid, taken = [], set()
        letters = draw.random.choice(["a", "ab", "abc"])
        for _ in range(20):
            layer = draw.narrow_layer([2, 3, 4, 6, 12])
            held = places(layer, SIZE)
            if len(laid) < draw.random.randint(1, 4) and not held & taken:
                laid.append((draw.random.choice(letters), layer))
                taken |= held
        if not laid:
            return self.drawn(draw)
        left, low = [Ratio(draw.integer(6), draw.random.choice([1, 1, 2, 3])) for _ in range(2)]
        width, height = [Ratio(draw.random.randint(1, 6), draw.random.choice([1, 2])) for _ in range(2)]
        return Floor(laid), draw.narrow_layer([1, 2, 3, 4, 6, 12]), Window(left, left + width, low, low + height)

    def test_walk(self):
        draw = Draw(120)
        seen, refused = 0, 0
        for _ in range(150):
            floor, layer, window = self.drawn(draw)
            if len(floor_marks(floor, *wide_window(floor, window))) > 20:
                with self.assertRaises(TooMany) as caught:
                    spots(layer, floor, window)
                self.assertEqual(caught.exception.most, 20)
                refused += 1
                continue
            expected = {}
            for x, y in places(layer, SIZE):
                picture = seen_from(floor, window, x, y)
                expected[picture] = expected.get(picture, 0) + Fraction(1, SIZE * SIZE)
            self.assertEqual(told(spots(layer, floor, window)), expected)
            seen += len(expected)
            self.check_moved(draw, floor, layer, window)
        self.assertGreater(seen, 200)
        self.assertGreater(refused, 5)

    def check_moved(self, draw, floor, layer, window):
        """Floor and layer moved together, and a window that is moved the other way."""
        expected = told(spots(layer, floor, window))
        away, more = draw.point(9), draw.point(9)
        moved = Window(window.left + more.x, window.right + more.x, window.low + more.y, window.high + more.y)
        image = floor.shifted(away + more)
        # The window that counts lies elsewhere on the floor now.
        if len(floor_marks(image, *wide_window(image, moved))) <= 20:
            self.assertEqual(told(spots(layer.shifted(away), image, moved)), expected)
        wide = Motion([[Ratio(7, 3), 0], [0, HUNDRED]])
        sides = (window.left * Ratio(7, 3), window.right * Ratio(7, 3), window.low * HUNDRED, window.high * HUNDRED)
        image = {
            tuple((letter, x * Fraction(7, 3), y * HUNDRED) for letter, x, y in picture): thick / (Fraction(7, 3) * HUNDRED)
            for picture, thick in expected.items()
        }
        self.assertEqual(told(spots(layer.moved(wide), floor.moved(wide), Window(*sides))), image)

    def test_too_many(self):
        """Twenty and twenty-one marks in the window that counts."""
        floor = Floor([("a", columns(1))])
        # One row of the marks is in the window that counts, from its left side to one step more.
        for right, many in [(1, 2), (19, 20), (Ratio(37, 2), 20), (Ratio(191, 10), 21), (20, 21), (HUNDRED, HUNDRED + 1)]:
            window = Window(0, right, Ratio(1, 2), Ratio(6, 10))
            if many < 100:
                self.assertEqual(len(floor_marks(floor, *wide_window(floor, window))), many)
            if many > 20:
                with self.assertRaises(TooMany) as caught:
                    spots(columns(3), floor, window)
                self.assertEqual(caught.exception.most, 20)
            else:
                self.assertEqual(told(spots(columns(3), floor, window)), {(): Fraction(1, 3)})
        # Some thirty figures, exactly at the edge.
        side = 10 ** 33 + 7
        lattice = Lattice.oblong(side, side)
        wide = Floor([("a", Layer(Point(0, 0), lattice)), ("b", Layer(Point(1, 5), lattice))])
        for right, refused in [(4 * side, False), (4 * side + 1, True)]:
            window = Window(0, right, 0, side)
            self.assertEqual(len(floor_marks(wide, *wide_window(wide, window))), 22 if refused else 20)
            if refused:
                with self.assertRaises(TooMany):
                    spots(columns(1), wide, window)
            else:
                self.assertEqual(sum(told(spots(columns(1), wide, window)).values()), 1)

    def test_wider_steps(self):
        """One oblong lattice, and a layer whose steps are a little wider: it sees the floor from all sides alike."""
        draw = Draw(121)
        for _ in range(20):
            width, height = [10 ** 29 + abs(draw.integer(10 ** 20)) for _ in range(2)]
            lattice = Lattice.oblong(width, height)
            marks = [(draw.random.choice("ab"), draw.whole_point(width)) for _ in range(draw.random.randint(1, 3))]
            floor = Floor([(letter, Layer(point, lattice)) for letter, point in marks])
            layer = Layer(draw.whole_point(width), Lattice.oblong(width + 1, height + 1))
            window = Window(0, width // 2, 0, height // 3)
            found = told(spots(layer, floor, window))
            self.assertEqual(sum(found.values()), fraction(layer.thickness))
            # Each whole rest comes up equally often, so a mark is seen as often as the window is large.
            seen = sum(len(picture) * thick for picture, thick in found.items())
            share = Fraction((width // 2) * (height // 3), width * height)
            self.assertEqual(seen, len(marks) * share * fraction(layer.thickness))
            if len(marks) == 1:
                self.assertEqual(found[(marks[0][0], 0, 0),], share * fraction(layer.thickness))

    def test_sides(self):
        """A mark on the left or lower side is seen, one on the right or upper side is not."""
        floor = Floor([("a", Layer(Point(0, 0), Lattice.square(10)))])
        layer = Layer(Point(0, 0), Lattice.square(10))
        for window, expected in [
            (Window(0, 1, 0, 1), (("a", 0, 0),)), (Window(-1, 0, 0, 1), ()), (Window(0, 1, -1, 0), ()),
            (Window(-1, 1, -1, 1), (("a", 0, 0),)), (Window(0, Ratio(1, HUNDRED), 0, Ratio(1, HUNDRED)), (("a", 0, 0),)),
            (Window(0, 10, 0, 10), (("a", 0, 0),)), (Window(10, 21, 0, 1), (("a", 0, 0), ("a", 10, 0))),
            (Window(0, 11, 0, 11), (("a", 0, 0), ("a", 0, 10), ("a", 10, 0), ("a", 10, 10))),
        ]:
            self.assertEqual(told(spots(layer, floor, window)), {expected: Fraction(1, 100)})

    def test_order(self):
        """Pictures are ordered by x, then by y, not by letters or layers."""
        lattice = Lattice.square(10)
        floor = Floor([("b", Layer(Point(0, 0), lattice)), ("a", Layer(Point(0, 1), lattice)), ("a", Layer(Point(-1, 3), lattice))])
        seen = spots(Layer(Point(0, 0), lattice), floor, Window(-2, 3, -2, 6))
        picture = (("a", 0, 0), ("b", 1, -3), ("a", 1, -2))
        self.assertEqual(told(seen), {picture: Fraction(1, 100)})
        self.assertEqual(seen[0][0], tuple((letter, Ratio(x), Ratio(y)) for letter, x, y in picture))

    def test_limits(self):
        draw = Draw(122)
        bottom = 10 ** 500 + 3
        for point in (lambda: draw.point(10 ** 60), lambda: Point(Ratio(draw.integer(10 ** 80), bottom), Ratio(draw.integer(10 ** 80), bottom))):
            lattice = Lattice([point(), point()])
            floor = Floor([(draw.random.choice("ab"), Layer(point(), lattice)) for _ in range(4)])
            layer = Layer(point(), Lattice([point(), point()]))
            window = Window(0, lattice.a * Ratio(9, 10), lattice.d * Ratio(-1, 2), lattice.d * Ratio(1, 3))
            found = told(spots(layer, floor, window))
            self.assertEqual(sum(found.values()), fraction(layer.thickness))
            self.check_pictures(floor, window, found)

    def check_pictures(self, floor, window, found):
        """The marks of each picture are marks of the floor, and they fit into the window."""
        for picture in found:
            if picture:
                starts = [layer.point for letter, layer in floor.laid if letter == picture[0][0]]
                self.assertTrue(any(all(
                    floor.letter_at(start + point_of(x, y)) == letter for letter, x, y in picture
                ) for start in starts))
                width = max(x for _, x, _ in picture) - min(x for _, x, _ in picture)
                self.assertLess(width, fraction(window.right - window.left))


if __name__ == "__main__":
    unittest.main()
