"""Bases of a lattice in a ground, and the least ones, which are told by the shape of the lattice."""

from math import lcm

from overfloors.errors import BadPoint
from overfloors.lattices import Lattice, rows_by
from overfloors.order import ranked
from overfloors.points import Point, cross
from overfloors.ratios import Ratio, ratio_of

# The six steps (i, j), each for i u + j v, that steps_around tells for u and v.
STEPS = ((1, 0), (0, 1), (-1, 1), (-1, 0), (0, -1), (1, -1))
# The twos of them that make all least bases for a least base (u, v) of the shape (p, q, r): first for p
# below r, then for p equal to r, each time for q between 0 and p, for q equal to 0, and for q equal to p.
LEAST = (
    ((0, 1), (3, 4)),
    ((0, 1), (0, 4), (3, 1), (3, 4)),
    ((0, 1), (0, 5), (3, 2), (3, 4)),
    ((0, 1), (1, 0), (3, 4), (4, 3)),
    ((0, 1), (1, 0), (1, 3), (3, 1), (3, 4), (4, 3), (4, 0), (0, 4)),
    ((0, 1), (1, 0), (1, 2), (2, 1), (2, 3), (3, 2), (3, 4), (4, 3), (4, 5), (5, 4), (5, 0), (0, 5)),
)


def shape_by(ground, u, v):
    """The measures of two points with their pair between them."""
    return ground.measure(u), ground.pair(u, v), ground.measure(v)


def is_least_shape(shape):
    """True for the shapes of least bases."""
    p, q, r = shape
    return 0 <= q and q <= p and p <= r


def figures_by(u, v, point):
    """The Ratios x and y for which u * x + v * y is a point."""
    area = cross(u, v)
    return cross(point, v).over(area), cross(u, point).over(area)


def steps_around(u, v):
    """Six rows of steps around (0, 0); for a least base u, v two neighbours always are a base at no obtuse angle."""
    half = [u, v, (v[0] - u[0], v[1] - u[1])]
    return half + [(-x, -y) for x, y in half]


class Base:
    """Two points u, v that make a lattice, in a ground."""

    def __init__(self, ground, u, v):
        # This refuses u and v, too, where they are no Points or make no lattice.
        self.lattice = Lattice([u, v])
        self.ground = ground
        self.u = u
        self.v = v
        self.shape = shape_by(ground, u, v)

    def is_least(self):
        """True if both points are as short as they can be, at an angle that is not obtuse."""
        return is_least_shape(self.shape)

    def point_at(self, x, y):
        """The point u * x + v * y."""
        first, second = ratio_of(x), ratio_of(y)
        return self.u * first + self.v * second

    def figures(self, point):
        """The Ratios x and y that lead to a point."""
        if not isinstance(point, Point):
            raise BadPoint(point)
        return figures_by(self.u, self.v, point)

    def __eq__(self, other):
        if not isinstance(other, Base):
            return False
        return self.ground == other.ground and self.u == other.u and self.v == other.v


def area_of(one, other):
    """The area of two rows of integers."""
    return one[0] * other[1] - one[1] * other[0]


def shortened(ground, one, other):
    """A least base (u, v) of the lattice of two rows of integers, and its shape, all by integers."""
    u, v = one, other
    p, q, r = ground.whole_measure(u[0], u[1]), ground.whole_pair(u, v), ground.whole_measure(v[0], v[1])
    while True:
        many = (q + p) // (2 * p)
        v = v[0] - many * u[0], v[1] - many * u[1]
        r = r - many * (q - many * p)
        q = q - 2 * many * p
        if p <= r:
            break
        p, r = r, p
        u, v = v, u
    if q < 0:
        q, v = -q, (-v[0], -v[1])
    return u, v, (p, q, r)


def least_rows(ground, lattice):
    """(times, u, v, shape): how many times a lattice is taken to be whole, a least base of it then, and its shape."""
    table = lattice.table
    times = lcm(table.across, table.upward)
    a, b, d = rows_by(table, times, times)
    u, v, shape = shortened(ground, (a, b), (0, d))
    return times, u, v, shape


def row_point(row, times):
    """The point that two integers tell for a lattice that is taken so many times."""
    return Point(Ratio(row[0], times), Ratio(row[1], times))


def all_least_rows(u, v, shape):
    """Pairs of the steps that make a least base of one of the shape, and its rows, ascending by the rows."""
    p, q, r = shape
    pairs = LEAST[(3 if p == r else 0) + (1 if q == 0 else 2 if q == p else 0)]
    around = steps_around(u, v)
    order = ranked([(*around[first], *around[second]) for first, second in pairs])
    pairs = [pairs[index] for index in order]
    return [((STEPS[first], STEPS[second]), (around[first], around[second])) for first, second in pairs]


def least_bases(ground, lattice):
    """All least bases, ascending by the coordinates of u, then by those of v."""
    times, u, v, shape = least_rows(ground, lattice)
    found = all_least_rows(u, v, shape)
    return [Base(ground, row_point(rows[0], times), row_point(rows[1], times)) for _, rows in found]


def shape_of(ground, lattice):
    """The shape of all least bases."""
    times, _, _, shape = least_rows(ground, lattice)
    return tuple([Ratio(figure, times * times) for figure in shape])
