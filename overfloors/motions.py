"""Motions: turns, mirrors, stretches and shifts of the plane, told by a table and a shift."""

from overfloors.errors import BadNumber, Flat
from overfloors.points import Point, carried
from overfloors.ratios import Ratio, is_int, power_of, ratio_of

STILL = ((1, 0), (0, 1))
MOST_TIMES = 1000
# A table of finite order has one of the orders 1, 2, 3, 4 and 6, and so has its motion.
MOST_ORDER = 6


def factor_of(table):
    """The factor by which a table ((a, b), (c, d)) changes areas."""
    above, below = table
    return above[0] * below[1] - above[1] * below[0]


def undone(table):
    """The table that undoes a table."""
    above, below = table
    part = Ratio(1).over(factor_of(table))
    return (below[1] * part, -above[1] * part), (-below[0] * part, above[0] * part)


class Motion:
    """The motion that takes (x, y) to (a x + b y, c x + d y) and adds the shift."""

    def __init__(self, table, shift=None):
        above, below = table
        a, b = above
        c, d = below
        self.table = (ratio_of(a), ratio_of(b)), (ratio_of(c), ratio_of(d))
        if not factor_of(self.table):
            raise Flat()
        self.shift = Point(0, 0) if shift is None else shift

    def __call__(self, point):
        return carried(point, self.table) + self.shift

    def __eq__(self, other):
        return isinstance(other, Motion) and self.table == other.table and self.shift == other.shift

    def __mul__(self, other):
        if not isinstance(other, Motion):
            return NotImplemented
        (a, b), (c, d) = other.table
        first, second = carried(Point(a, c), self.table), carried(Point(b, d), self.table)
        shift = carried(other.shift, self.table) + self.shift
        return Motion([[first.x, second.x], [first.y, second.y]], shift)

    def __invert__(self):
        table = undone(self.table)
        return Motion(table, -carried(self.shift, table))

    def power(self, number):
        """The motion done so many times, for a number below 0 its undoing."""
        if not is_int(number) or number < -MOST_TIMES or number > MOST_TIMES:
            raise BadNumber(number)
        return power_of(self if number >= 0 else ~self, abs(number), Motion(STILL))

    def factor(self):
        """The number by which areas are multiplied; below 0 if the motion mirrors."""
        return factor_of(self.table)

    def straight(self):
        """The motion without its shift."""
        return Motion(self.table)

    def stretch(self, ground):
        """The Ratio by which the squared lengths of a ground are multiplied, or None."""
        (a, b), (c, d) = self.table
        first, second = Point(a, c), Point(b, d)
        many = ground.measure(first).over(ground.a)
        if ground.pair(first, second) != many * ground.b or ground.measure(second) != many * ground.c:
            return None
        return many

    def kind(self, ground):
        """A word for what the motion does if it keeps the lengths of a ground, otherwise None."""
        if self.stretch(ground) != 1:
            return None
        if self.straight() == Motion(STILL):
            return "shift" if self.shift else "rest"
        if self.factor() == 1:
            return "turn"
        # Points are kept where the shift leads straight across the mirror, which undoes it then.
        return "mirror" if carried(self.shift, self.table) == -self.shift else "glide"

    def kept(self):
        """The only point that is taken to itself, or None."""
        (a, b), (c, d) = self.table
        change = (1 - a, -b), (-c, 1 - d)
        if not factor_of(change):
            return None
        return carried(self.shift, undone(change))

    def order(self):
        """The least number of times after which each point is back where it was, or None."""
        done = self
        for many in range(1, MOST_ORDER + 1):
            if done == Motion(STILL):
                return many
            done = done * self
        return None


def shifting(point):
    """The motion that adds a point."""
    return Motion(STILL, point)


def stretching(number):
    """The motion that multiplies by a number."""
    return Motion([[number, 0], [0, number]])


def indices(lattice, motion):
    """The indices of what a lattice and its image have in common: in the lattice, and in the image."""
    image = lattice.moved(motion)
    common = lattice & image
    return lattice.index_of(common), image.index_of(common)
