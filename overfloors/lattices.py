"""Lattices: all sums of integer multiples of some points."""

from math import gcd, lcm

from overfloors.errors import BadNumber, BadPoint, Flat, NotWithin
from overfloors.points import Form, Point
from overfloors.ratios import Ratio, bezout, is_number, ratio_of


class Table:
    """The table of a lattice by integers: a / across, b / upward and d / upward, both with the least bottoms.

    Integers (a, b, d) alone tell the rows (a, b) and (0, d) of a lattice, with a and d above 0 and
    b from 0 to d less 1.
    """

    def __init__(self, a, b, d, across, upward):
        common = gcd(a, across)
        self.a = a // common
        self.across = across // common
        part = gcd(b, d, upward)
        self.b = b // part
        self.d = d // part
        self.upward = upward // part


def with_row(rows, x, y):
    """The rows (a, b, d) of the lattice of such rows and of one point more, all whole.

    As long as all points lie on one line, a or d is 0; b is 0 where a is.
    """
    a, b, d = rows
    if x == 0:
        return a, b, gcd(d, y)
    if a == 0:
        return (x, y, d) if x > 0 else (-x, -y, d)
    common, s, t = bezout(a, x)
    # The other combination of both points, which makes the same lattice together with the one
    # that bezout tells: it stands on the line x = 0.
    height = gcd(d, (x // common) * b - (a // common) * y)
    lean = s * b + t * y
    return common, lean % height if height > 0 else lean, height


def table_of(points):
    """The table of the lattice of some points."""
    across, upward = 1, 1
    for point in points:
        if not isinstance(point, Point):
            raise BadPoint(point)
        across, upward = lcm(across, point.x.bottom), lcm(upward, point.y.bottom)
    rows = (0, 0, 0)
    for point in points:
        x, y = point.x, point.y
        rows = with_row(rows, x.top * (across // x.bottom), y.top * (upward // y.bottom))
    a, b, d = rows
    if a == 0 or d == 0:
        raise Flat()
    return Table(a, b % d, d, across, upward)


def upright_table(width, height):
    """The table of the lattice of the points (width, 0) and (0, height)."""
    across, upward = abs(ratio_of(width)), abs(ratio_of(height))
    if across.top == 0 or upward.top == 0:
        raise Flat()
    return Table(across.top, 0, upward.top, across.bottom, upward.bottom)


def rows_by(table, across, upward):
    """The rows (a, b, d) of a table that is taken so many times in both directions."""
    more = upward // table.upward
    return table.a * (across // table.across), table.b * more, table.d * more


def joint_rows(one, other):
    """The rows of the sum of two lattices of rows (a, b, d)."""
    a, b, d = one
    width, lean, height = other
    common, s, t = bezout(a, width)
    height = gcd(d, height, (width // common) * b - (a // common) * lean)
    return common, (s * b + t * lean) % height, height


def common_rows(one, other):
    """The rows of the common part of two lattices of rows (a, b, d)."""
    a, b, d = one
    width, lean, height = other
    part = gcd(a, width)
    # In the first common column, and in its multiples, both have points a step apart each, which
    # meet where the difference of their heights is a multiple of what the steps have in common.
    low, high = width // part * b, a // part * lean
    common, s, _ = bezout(d, height)
    many = common // gcd(common, high - low)
    apart = height // common
    rise = many * (high - low) // common * s % apart
    return width // part * a * many, (many * low + d * rise) % (d * apart), d * apart


def rest_by(rows, x, y):
    """The rest of a whole point modulo the lattice of some rows (a, b, d)."""
    a, b, d = rows
    many = x // a
    return x - many * a, (y - many * b) % d


def moved_table(table, motion_table):
    """The table of the lattice of the images of the rows of a table under the table of a motion."""
    (a, b), (c, d) = motion_table
    first, second = a.bottom * table.across, b.bottom * table.upward
    third, fourth = c.bottom * table.across, d.bottom * table.upward
    across, upward = lcm(first, second), lcm(third, fourth)
    wide, high = a.top * (across // first), b.top * (across // second)
    long, steep = c.top * (upward // third), d.top * (upward // fourth)
    rows = with_row((0, 0, 0), wide * table.a + high * table.b, long * table.a + steep * table.b)
    width, lean, height = with_row(rows, high * table.d, steep * table.d)
    return Table(width, lean % height, height, across, upward)


def is_member(table, left, across, low, upward):
    """True if the point (left / across, low / upward) is in the lattice of a table."""
    width, left = across * table.a, left * table.across
    if left % width != 0:
        return False
    return (low * table.upward - left // width * table.b * upward) % (upward * table.d) == 0


def dual_table(table):
    """The table of the dual of a lattice."""
    a, b, d = table.a, table.b, table.d
    # The forms of Lattice.tests as points: (across * d, 0) over a * d and -(across * b) over the
    # same, upward over d.
    common, _, t = bezout(d, -b)
    height = table.upward * (d // common)
    return Table(table.across * common, t * table.upward % height, height, a * d, d)


class Lattice:
    """The lattice of some points, told by its table (a, b, d)."""

    def __init__(self, points):
        table = points if isinstance(points, Table) else table_of(points)
        self.table = table
        self.a = Ratio(table.a, table.across)
        self.b = Ratio(table.b, table.upward)
        self.d = Ratio(table.d, table.upward)

    @classmethod
    def square(cls, size):
        """The lattice of (size, 0) and (0, size)."""
        return cls(upright_table(size, size))

    @classmethod
    def oblong(cls, width, height):
        """The lattice of (width, 0) and (0, height)."""
        return cls(upright_table(width, height))

    @property
    def cell(self):
        """The area of the oblong that holds one point of each kind."""
        table = self.table
        return Ratio(table.a * table.d, table.across * table.upward)

    def rows(self):
        """The two points (a, b) and (0, d), which make the lattice."""
        return Point(self.a, self.b), Point(0, self.d)

    def rest(self, point):
        """The point of the oblong to which members of the lattice bring a point."""
        if not isinstance(point, Point):
            raise BadPoint(point)
        table, x, y = self.table, point.x, point.y
        width, height = x.bottom * table.a, y.bottom * table.d
        left, low = x.top * table.across, y.top * table.upward
        many = left // width
        if many == 0 and 0 <= low and low < height:
            return point
        low = (low - many * table.b * y.bottom) % height
        return Point(Ratio(left - many * width, x.bottom * table.across), Ratio(low, y.bottom * table.upward))

    def steps(self, point):
        """The Ratios m and n with point = m * (a, b) + n * (0, d)."""
        table, x, y = self.table, point.x, point.y
        many = Ratio(x.top * table.across, x.bottom * table.a)
        low = y.top * table.upward * many.bottom - table.b * many.top * y.bottom
        return many, Ratio(low, y.bottom * many.bottom * table.d)

    def order(self, point):
        """The least integer from 1 on whose product with the point is in the lattice."""
        first, second = self.steps(point)
        return lcm(first.bottom, second.bottom)

    def tests(self):
        """Two forms: a point is in the lattice exactly if both have integer values there."""
        table = self.table
        upright = Form(Ratio(table.across, table.a), 0)
        return upright, Form(Ratio(-table.b * table.across, table.a * table.d), Ratio(table.upward, table.d))

    def dual(self):
        """The lattice of all points that give integers together with each member."""
        return Lattice(dual_table(self.table))

    def index_of(self, other):
        """The index in this lattice of a lattice that lies within it."""
        if not other <= self:
            raise NotWithin()
        one, two = self.table, other.table
        return two.a * one.across // (one.a * two.across) * (two.d * one.upward // (one.d * two.upward))

    def moved(self, motion):
        """The lattice of the images of the rows under the table of a motion."""
        return Lattice(moved_table(self.table, motion.table))

    def __contains__(self, point):
        x, y = point.x, point.y
        return is_member(self.table, x.top, x.bottom, y.top, y.bottom)

    def __eq__(self, other):
        if not isinstance(other, Lattice):
            return False
        one, two = self.table, other.table
        if one.a != two.a or one.b != two.b or one.d != two.d:
            return False
        return one.across == two.across and one.upward == two.upward

    def __le__(self, other):
        if not isinstance(other, Lattice):
            return NotImplemented
        one, two = self.table, other.table
        width, height = one.across * two.a, one.upward * two.d
        left = one.a * two.across
        if left % width != 0 or one.d * two.upward % height != 0:
            return False
        return (one.b * two.upward - left // width * two.b * one.upward) % height == 0

    def __and__(self, other):
        if not isinstance(other, Lattice):
            return NotImplemented
        one, two = self.table, other.table
        across, upward = lcm(one.across, two.across), lcm(one.upward, two.upward)
        a, b, d = common_rows(rows_by(one, across, upward), rows_by(two, across, upward))
        return Lattice(Table(a, b, d, across, upward))

    def __add__(self, other):
        if not isinstance(other, Lattice):
            return NotImplemented
        one, two = self.table, other.table
        across, upward = lcm(one.across, two.across), lcm(one.upward, two.upward)
        a, b, d = joint_rows(rows_by(one, across, upward), rows_by(two, across, upward))
        return Lattice(Table(a, b, d, across, upward))

    def __mul__(self, other):
        if not is_number(other):
            return NotImplemented
        return multiple(self.table, other)

    def __rmul__(self, other):
        if not is_number(other):
            return NotImplemented
        return multiple(self.table, other)


def multiple(table, number):
    """The lattice of the multiples of the points of a table."""
    factor = abs(ratio_of(number))
    if factor.top == 0:
        raise BadNumber(number)
    many, bottom = factor.top, factor.bottom
    return Lattice(Table(table.a * many, table.b * many, table.d * many, table.across * bottom, table.upward * bottom))
