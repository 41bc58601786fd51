"""Lattices: all sums of integer multiples of some points."""

from math import gcd

from overfloors.errors import BadNumber, BadPoint, Flat, NotWithin
from overfloors.points import Form, Point, carried
from overfloors.ratios import Ratio, bezout, is_number, lcm_of


def common_bottom(ratios):
    """The least integer above 0 whose product with each of the Ratios is whole."""
    found = 1
    for ratio in ratios:
        found = lcm_of(found, ratio.bottom)
    return found


def with_point(table, x, y):
    """The whole table of the lattice of a whole table and of the point (x, y).

    A whole table (a, b, d) tells the sums of (a, b) and (0, d) by integers. As long as all
    points lie on one line, a or d is 0; b is 0 where a is.
    """
    a, b, d = table
    common, s, t = bezout(a, x)
    if common == 0:
        return 0, 0, gcd(d, y)
    lean = s * b + t * y
    # The other combination of both points, which makes the same lattice together with
    # (common, lean): it stands on the line x = 0.
    height = gcd(d, (x // common) * b - (a // common) * y)
    return common, lean % height if height > 0 else lean, height


def table_of(points):
    """The table of the lattice of some points."""
    across = common_bottom([point.x for point in points])
    upward = common_bottom([point.y for point in points])
    table = (0, 0, 0)
    for point in points:
        x = point.x.top * (across // point.x.bottom)
        y = point.y.top * (upward // point.y.bottom)
        table = with_point(table, x, y)
    a, b, d = table
    if a == 0 or d == 0:
        raise Flat()
    return Ratio(a, across), Ratio(b, upward), Ratio(d, upward)


class Lattice:
    """The lattice of some points, told by its table (a, b, d)."""

    def __init__(self, points):
        for point in points:
            if not isinstance(point, Point):
                raise BadPoint(point)
        self.table = table_of(points)
        self.a, self.b, self.d = self.table

    @classmethod
    def square(cls, size):
        """The lattice of (size, 0) and (0, size)."""
        return cls([Point(size, 0), Point(0, size)])

    @classmethod
    def oblong(cls, width, height):
        """The lattice of (width, 0) and (0, height)."""
        return cls([Point(width, 0), Point(0, height)])

    @property
    def cell(self):
        """The area of the oblong that holds one point of each kind."""
        return self.a * self.d

    def rows(self):
        """The two points (a, b) and (0, d), which make the lattice."""
        return Point(self.a, self.b), Point(0, self.d)

    def rest(self, point):
        """The point of the oblong to which members of the lattice bring a point."""
        if not isinstance(point, Point):
            raise BadPoint(point)
        many = point.x // self.a
        return Point(point.x - self.a * many, (point.y - self.b * many) % self.d)

    def steps(self, point):
        """The Ratios m and n with point = m * (a, b) + n * (0, d)."""
        many = point.x.over(self.a)
        return many, (point.y - self.b * many).over(self.d)

    def order(self, point):
        """The least integer from 1 on whose product with the point is in the lattice."""
        first, second = self.steps(point)
        return lcm_of(first.bottom, second.bottom)

    def tests(self):
        """Two forms: a point is in the lattice exactly if both have integer values there."""
        first = Ratio(1).over(self.a)
        second = Ratio(1).over(self.d)
        return Form(first, 0), Form(-(self.b * first * second), second)

    def dual(self):
        """The lattice of all points that give integers together with each member."""
        return Lattice([Point(test.x, test.y) for test in self.tests()])

    def index_of(self, other):
        """The index in this lattice of a lattice that lies within it."""
        if not other <= self:
            raise NotWithin()
        return other.cell.over(self.cell).top

    def moved(self, motion):
        """The lattice of the images of the rows under the table of a motion."""
        return Lattice([carried(row, motion.table) for row in self.rows()])

    def __contains__(self, point):
        first, second = self.steps(point)
        return first.whole() and second.whole()

    def __eq__(self, other):
        return isinstance(other, Lattice) and self.a == other.a and self.b == other.b and self.d == other.d

    def __le__(self, other):
        if not isinstance(other, Lattice):
            return NotImplemented
        first, second = self.rows()
        return first in other and second in other

    def __and__(self, other):
        if not isinstance(other, Lattice):
            return NotImplemented
        # What is whole on the common part is a sum of what is whole on the one and on the other.
        return (self.dual() + other.dual()).dual()

    def __add__(self, other):
        if not isinstance(other, Lattice):
            return NotImplemented
        return Lattice([*self.rows(), *other.rows()])

    def __mul__(self, other):
        if not is_number(other):
            return NotImplemented
        if not other:
            raise BadNumber(other)
        return Lattice([row * other for row in self.rows()])

    def __rmul__(self, other):
        if not is_number(other):
            return NotImplemented
        return self * other
