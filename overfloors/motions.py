"""Motions: turns, mirrors, stretches and shifts of the plane, told by a table and a shift."""

from math import lcm

from overfloors.errors import BadNumber, Flat
from overfloors.points import Point, carried, summed
from overfloors.ratios import Ratio, is_int, power_of, ratio_of

STILL = ((1, 0), (0, 1))
MOST_TIMES = 1000
# How often a table of factor 1 is done to undo itself, by the sum of its first and its last number.
TIMES_BY_SUM = {-1: 3, 0: 4, 1: 6}


def whole_table(table):
    """The integers (a, b, c, d) of a table ((a, b), (c, d)) that is taken so many times, and how many times."""
    (a, b), (c, d) = table
    many = lcm(a.bottom, b.bottom, c.bottom, d.bottom)
    first, second = a.top * (many // a.bottom), b.top * (many // b.bottom)
    return first, second, c.top * (many // c.bottom), d.top * (many // d.bottom), many


def factor_of(table):
    """The factor by which a table ((a, b), (c, d)) changes areas."""
    a, b, c, d, many = whole_table(table)
    return Ratio(a * d - b * c, many * many)


def undone(table):
    """The table that undoes a table."""
    a, b, c, d, many = whole_table(table)
    area = a * d - b * c
    above = Ratio(d * many, area), Ratio(-b * many, area)
    return above, (Ratio(-c * many, area), Ratio(a * many, area))


class Motion:
    """The motion that takes (x, y) to (a x + b y, c x + d y) and adds the shift."""

    def __init__(self, table, shift=None):
        above, below = table
        a, b = above
        c, d = below
        a, b, c, d = ratio_of(a), ratio_of(b), ratio_of(c), ratio_of(d)
        if a.top * d.top * b.bottom * c.bottom == b.top * c.top * a.bottom * d.bottom:
            raise Flat()
        self.table = (a, b), (c, d)
        self.shift = Point(0, 0) if shift is None else shift

    def __call__(self, point):
        return moved_point(point, self.table, self.shift)

    def __eq__(self, other):
        return isinstance(other, Motion) and self.table == other.table and self.shift == other.shift

    def __mul__(self, other):
        if not isinstance(other, Motion):
            return NotImplemented
        (a, b), (c, d) = self.table
        (e, f), (g, h) = other.table
        table = (summed(a, e, b, g), summed(a, f, b, h)), (summed(c, e, d, g), summed(c, f, d, h))
        return Motion(table, moved_point(other.shift, self.table, self.shift))

    def __invert__(self):
        table = undone(self.table)
        return Motion(table, -carried(self.shift, table))

    def power(self, number):
        """The motion done so many times, for a number below 0 its undoing."""
        if not is_int(number) or number < -MOST_TIMES or number > MOST_TIMES:
            raise BadNumber(number)
        return power_of(self if number >= 0 else ~self, abs(number), Motion(STILL))

    def factor(self):
        """The number by which areas are multiplied; below 0 if the motion mirrors."""
        return factor_of(self.table)

    def straight(self):
        """The motion without its shift."""
        return Motion(self.table)

    def stretch(self, ground):
        """The Ratio by which the squared lengths of a ground are multiplied, or None."""
        a, b, c, d, many = whole_table(self.table)
        length = ground.whole_measure(a, c)
        if ground.whole_pair((a, c), (b, d)) * ground.a != length * ground.b:
            return None
        if ground.whole_measure(b, d) * ground.a != length * ground.c:
            return None
        return Ratio(length, ground.a * many * many)

    def kind(self, ground):
        """A word for what the motion does if it keeps the lengths of a ground, otherwise None."""
        if self.stretch(ground) != 1:
            return None
        if self.table == STILL:
            return "shift" if self.shift else "rest"
        if factor_of(self.table) == 1:
            return "turn"
        # Points are kept where the shift leads straight across the mirror, which undoes it then.
        return "mirror" if is_across(self.table, self.shift) else "glide"

    def kept(self):
        """The only point that is taken to itself, or None."""
        a, b, c, d, many = whole_table(self.table)
        area = (many - a) * (many - d) - b * c
        if area == 0:
            return None
        part = Ratio(many, area)
        x, y = self.shift.x * part, self.shift.y * part
        return Point(x * (many - d) + y * b, x * c + y * (many - a))

    def order(self):
        """The least number of times after which each point is back where it was, or None."""
        (a, _), (_, d) = self.table
        factor, both = factor_of(self.table), a + d
        if self.table == STILL:
            return None if self.shift else 1
        if factor == 1:
            if self.table == ((-1, 0), (0, -1)):
                return 2
            # Tables of finite order have whole sums; the sum 2 or -2 of any other table tells of none.
            return TIMES_BY_SUM.get(both.top) if both.bottom == 1 else None
        return 2 if factor == -1 and not both and is_across(self.table, self.shift) else None


def moved_point(point, table, shift):
    """The point to which a table and then a shift take a point."""
    return carried(point, table) + shift


def is_across(table, shift):
    """True if a table takes a shift to its opposite."""
    return carried(shift, table) == -shift


def shifting(point):
    """The motion that adds a point."""
    return Motion(STILL, point)


def stretching(number):
    """The motion that multiplies by a number."""
    return Motion([[number, 0], [0, number]])


def indices(lattice, motion):
    """The indices of what a lattice and its image have in common: in the lattice, and in the image."""
    image = lattice.moved(motion)
    common = lattice & image
    return lattice.index_of(common), image.index_of(common)
