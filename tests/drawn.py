"""Values that the tests draw, always the same ones, and values that are wrong."""

from fractions import Fraction
from random import Random

from overfloors.errors import Flat
from overfloors.lattices import Lattice
from overfloors.layers import Layer
from overfloors.points import Form, Point, cross
from overfloors.ratios import Ratio

HUNDRED = 10 ** 100


class Other:
    """An object of a class that the package does not know."""


def nested(depth):
    value = []
    for _ in range(depth):
        value = [value]
    return value


def no_integers():
    """Values that are no integers; Ratios are left out, since they are numbers."""
    return [
        None, True, False, "", "1", "ab", (), (1,), (1, 2), [], [1], {}, {"a": 1}, {1: 2},
        nested(20), Other(), Point(1, 2), Form(1, 2), Lattice.square(1),
    ]


def no_points():
    """Values that are no Points."""
    others = [value for value in no_integers() if not isinstance(value, Point)]
    return others + [0, 5, Ratio(1, 2), [Point(1, 2)], (Point(1, 2), Point(0, 1))]


def no_lattices():
    """Values that are no Lattices."""
    others = [value for value in no_points() if not isinstance(value, Lattice)]
    return others + [Point(1, 2), Layer(Point(0, 0), Lattice.square(1))]


def no_counts():
    """Values that are no integers from 1 on."""
    return no_integers() + [0, -1, -HUNDRED, Ratio(1), Ratio(5), Ratio(1, 2), Ratio(-3)]


class Draw:
    """Draws numbers, points and lattices in an order that a seed fixes."""

    def __init__(self, seed):
        self.random = Random(seed)

    def integer(self, size):
        return self.random.randint(-size, size)

    def ratio(self, size):
        return Ratio(self.integer(size), self.random.randint(1, size))

    def point(self, size):
        return Point(self.ratio(size), self.ratio(size))

    def whole_point(self, size):
        return Point(self.integer(size), self.integer(size))

    def base(self, size):
        """Two points that are not on one line with (0, 0)."""
        while True:
            one, other = self.point(size), self.point(size)
            if cross(one, other):
                return one, other

    def lattice(self, size, points=2):
        while True:
            try:
                return Lattice([self.point(size) for _ in range(points)])
            except Flat:
                continue

    def whole_lattice(self, size, points=2):
        while True:
            try:
                return Lattice([self.whole_point(size) for _ in range(points)])
            except Flat:
                continue

    def layer(self, size):
        return Layer(self.point(size), self.lattice(size))

    def narrow_lattice(self, index):
        """A lattice of whole points with this index among all of them."""
        height = self.random.choice([number for number in range(1, index + 1) if index % number == 0])
        return Lattice([Point(index // height, self.random.randrange(height)), Point(0, height)])

    def narrow_layer(self, indexes):
        """A layer of whole points, whose lattice has one of the indexes."""
        index = self.random.choice(indexes)
        return Layer(self.whole_point(index), self.narrow_lattice(index))

    def small_layers(self, many, indexes=(1, 2, 3, 4, 6, 12)):
        """Different layers of whole points, which all repeat by (12, 0) and (0, 12)."""
        found = []
        while len(found) < many:
            layer = self.narrow_layer(indexes)
            if layer not in found:
                found.append(layer)
        return found

    def member(self, lattice, size):
        first, second = lattice.rows()
        return first * self.integer(size) + second * self.integer(size)


def columns(width, first=0):
    """The layer of all whole points with x = first modulo the width."""
    return Layer(Point(first, 0), Lattice.oblong(width, 1))


def fraction(number):
    """A number of the package as one of Python's own fractions."""
    if isinstance(number, Ratio):
        return Fraction(number.top, number.bottom)
    return Fraction(number)


def pair(point):
    """The coordinates of a point as fractions."""
    return fraction(point.x), fraction(point.y)


def members(lattice, size):
    """The points (x, y) of a lattice of whole points with 0 <= x < size and 0 <= y < size."""
    a, b, d = lattice.a.top, lattice.b.top, lattice.d.top
    return {(x, y) for x in range(0, size, a) for y in range(x // a * b % d, size, d)}


def places(layer, size):
    """The points of a layer of whole points in the same square; its lattice must hold (size, 0) and (0, size)."""
    left, low = layer.point.x.top, layer.point.y.top
    return {((x + left) % size, (y + low) % size) for x, y in members(layer.lattice, size)}
