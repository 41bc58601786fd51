"""Bases of a lattice in a ground, and the least ones, which are told by the shape of the lattice."""

from math import lcm

from overfloors.errors import BadPoint
from overfloors.lattices import Lattice, rows_by
from overfloors.order import ranked
from overfloors.points import Point, cross
from overfloors.ratios import Ratio, ratio_of


def shape_by(ground, u, v):
    """The measures of two points with their pair between them."""
    return ground.measure(u), ground.pair(u, v), ground.measure(v)


def is_least_shape(shape):
    """True for the shapes of least bases."""
    p, q, r = shape
    return 0 <= q and q <= p and p <= r


def figures_by(u, v, point):
    """The Ratios x and y for which u * x + v * y is a point."""
    area = cross(u, v)
    return cross(point, v).over(area), cross(u, point).over(area)


def steps_around(u, v):
    """Six rows of steps around (0, 0); for a least base u, v two neighbours always are a base at no obtuse angle."""
    half = [u, v, (v[0] - u[0], v[1] - u[1])]
    return half + [(-x, -y) for x, y in half]


class Base:
    """Two points u, v that make a lattice, in a ground."""

    def __init__(self, ground, u, v):
        # This refuses u and v, too, where they are no Points or make no lattice.
        self.lattice = Lattice([u, v])
        self.ground = ground
        self.u = u
        self.v = v
        self.shape = shape_by(ground, u, v)

    def is_least(self):
        """True if both points are as short as they can be, at an angle that is not obtuse."""
        return is_least_shape(self.shape)

    def point_at(self, x, y):
        """The point u * x + v * y."""
        first, second = ratio_of(x), ratio_of(y)
        return self.u * first + self.v * second

    def figures(self, point):
        """The Ratios x and y that lead to a point."""
        if not isinstance(point, Point):
            raise BadPoint(point)
        return figures_by(self.u, self.v, point)

    def __eq__(self, other):
        if not isinstance(other, Base):
            return False
        return self.ground == other.ground and self.u == other.u and self.v == other.v


def area_of(one, other):
    """The area of two rows of integers."""
    return one[0] * other[1] - one[1] * other[0]


def shortened(ground, one, other):
    """A least base (u, v) of the lattice of two rows of integers, and its shape, all by integers."""
    u, v = one, other
    p, q, r = ground.whole_measure(u[0], u[1]), ground.whole_pair(u, v), ground.whole_measure(v[0], v[1])
    while True:
        many = (q + p) // (2 * p)
        v = v[0] - many * u[0], v[1] - many * u[1]
        r = r - many * (q - many * p)
        q = q - 2 * many * p
        if p <= r:
            break
        p, r = r, p
        u, v = v, u
    if q < 0:
        q, v = -q, (-v[0], -v[1])
    return u, v, (p, q, r)


def least_rows(ground, lattice):
    """(times, u, v, shape): how many times a lattice is taken to be whole, a least base of it then, and its shape."""
    table = lattice.table
    times = lcm(table.across, table.upward)
    a, b, d = rows_by(table, times, times)
    u, v, shape = shortened(ground, (a, b), (0, d))
    return times, u, v, shape


def row_point(row, times):
    """The point that two integers tell for a lattice that is taken so many times."""
    return Point(Ratio(row[0], times), Ratio(row[1], times))


def steps_for(shape):
    """The pairs of steps that make all least bases of one of the shape, each step (i, j) for i u + j v."""
    p, q, r = shape
    # Of the steps that are no multiples of u no other one is as short as v.
    steps = ((1, 0), (0, 1), (-1, 1), (-1, 0), (0, -1), (1, -1))
    lengths = (p, r, p + r - q) * 2
    firsts = [step for step, length in zip(steps, lengths) if length == p]
    seconds = [step for step, length in zip(steps, lengths) if length == r]
    found = []
    for i, j in firsts:
        for m, n in seconds:
            # Steps on one line do not pass: their pair is 2 p or - 2 p.
            if 2 * p * i * m + q * (i * n + j * m) + 2 * r * j * n == q:
                found.append(((i, j), (m, n)))
    return found


def moved_rows(u, v, steps):
    """The rows of integers i u + j v for both steps (i, j) of a pair."""
    return [(u[0] * i + v[0] * j, u[1] * i + v[1] * j) for i, j in steps]


def all_least_rows(u, v, shape):
    """Pairs of the steps that make a least base of one of the shape, and its rows, ascending by the rows."""
    pairs = [(steps, moved_rows(u, v, steps)) for steps in steps_for(shape)]
    return [pairs[index] for index in ranked([(*rows[0], *rows[1]) for _, rows in pairs])]


def least_bases(ground, lattice):
    """All least bases, ascending by the coordinates of u, then by those of v."""
    times, u, v, shape = least_rows(ground, lattice)
    found = all_least_rows(u, v, shape)
    return [Base(ground, row_point(rows[0], times), row_point(rows[1], times)) for _, rows in found]


def shape_of(ground, lattice):
    """The shape of all least bases."""
    times, _, _, shape = least_rows(ground, lattice)
    return tuple([Ratio(figure, times * times) for figure in shape])
