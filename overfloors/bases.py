"""Bases of a lattice in a ground, and the least ones, which are told by the shape of the lattice."""

from overfloors.errors import BadPoint
from overfloors.lattices import Lattice, common_bottom
from overfloors.order import ranked
from overfloors.points import Point, cross
from overfloors.ratios import ratio_of


def shape_by(ground, u, v):
    """The measures of two points with their pair between them."""
    return ground.measure(u), ground.pair(u, v), ground.measure(v)


def is_least_shape(shape):
    """True for the shapes of least bases."""
    p, q, r = shape
    return 0 <= q and q <= p and p <= r


def figures_by(u, v, point):
    """The Ratios x and y for which u * x + v * y is a point."""
    area = cross(u, v)
    return cross(point, v).over(area), cross(u, point).over(area)


def steps_around(u, v):
    """Six steps around (0, 0); for a least base u, v two neighbours always are a base at no obtuse angle."""
    return [u, v, v - u, -u, -v, u - v]


class Base:
    """Two points u, v that make a lattice, in a ground."""

    def __init__(self, ground, u, v):
        # This refuses u and v, too, where they are no Points or make no lattice.
        self.lattice = Lattice([u, v])
        self.ground = ground
        self.u = u
        self.v = v
        self.shape = shape_by(ground, u, v)

    def is_least(self):
        """True if both points are as short as they can be, at an angle that is not obtuse."""
        return is_least_shape(self.shape)

    def point_at(self, x, y):
        """The point u * x + v * y."""
        first, second = ratio_of(x), ratio_of(y)
        return self.u * first + self.v * second

    def figures(self, point):
        """The Ratios x and y that lead to a point."""
        if not isinstance(point, Point):
            raise BadPoint(point)
        return figures_by(self.u, self.v, point)

    def __eq__(self, other):
        if not isinstance(other, Base):
            return False
        return self.ground == other.ground and self.u == other.u and self.v == other.v


def shortened(p, q, r):
    """Two rows of integers that lead from a base of the shape (p, q, r), integers, to a least one."""
    u, v = (1, 0), (0, 1)
    while True:
        many = (q + p) // (2 * p)
        v = v[0] - many * u[0], v[1] - many * u[1]
        r = r - many * (q - many * p)
        q = q - 2 * many * p
        if p <= r:
            break
        p, r = r, p
        u, v = v, u
    if q < 0:
        v = -v[0], -v[1]
    return u, v


def least_pair(ground, lattice):
    """The points u, v of one least base."""
    first, second = lattice.rows()
    shape = shape_by(ground, first, second)
    bottom = common_bottom(shape)
    p, q, r = [measure.top * (bottom // measure.bottom) for measure in shape]
    u, v = shortened(p, q, r)
    return first * u[0] + second * u[1], first * v[0] + second * v[1]


def least_bases(ground, lattice):
    """All least bases, ascending by the coordinates of u, then by those of v."""
    u, v = least_pair(ground, lattice)
    # Of the steps that are no multiples of u no other one is as short as v.
    steps = steps_around(u, v)
    pairs = [(one, other) for one in steps for other in steps if cross(one, other)]
    pairs = [pair for pair in pairs if is_least_shape(shape_by(ground, pair[0], pair[1]))]
    keys = [(one.x, one.y, other.x, other.y) for one, other in pairs]
    return [Base(ground, pairs[index][0], pairs[index][1]) for index in ranked(keys)]


def shape_of(ground, lattice):
    """The shape of all least bases."""
    u, v = least_pair(ground, lattice)
    return shape_by(ground, u, v)
