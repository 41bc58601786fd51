"""Common lines of two lattices, and what they tell of both."""

from math import gcd, lcm

from overfloors.lattices import Lattice, rows_by
from overfloors.points import Point, cross
from overfloors.ratios import Ratio, bezout, ratio_of


class Lines:
    """Common lines: two points u, v of one lattice, and the Ratios r, s that lead to the other."""

    def __init__(self, u, v, r, s):
        self.u = u
        self.v = v
        self.r = ratio_of(r)
        self.s = ratio_of(s)

    def lattices(self):
        """The lattice of u and v, and that of r * u and s * v."""
        return Lattice([self.u, self.v]), Lattice([self.u * self.r, self.v * self.s])

    def common(self):
        """The common part of both lattices."""
        return Lattice([self.u * self.r.top, self.v * self.s.top])

    def joint(self):
        """The sum of both lattices."""
        return Lattice([self.u * Ratio(1, self.r.bottom), self.v * Ratio(1, self.s.bottom)])


def part_apart(number, other):
    """The greatest divisor of a number above 0 that has no common divisor with the other one."""
    left = number
    common = gcd(left, other)
    while common > 1:
        left = left // common
        # Squares keep the rounds few where a prime divides the number very often.
        common = gcd(left, common * common)
    return left


def lines_of(one, other):
    """Common lines of two lattices."""
    wide, high = lcm(one.table.across, other.table.across), lcm(one.table.upward, other.table.upward)
    (a, b, d), (across, lean, height) = rows_by(one.table, wide, high), rows_by(other.table, wide, high)
    # The steps of the second rows along the first ones, taken so many times as the area of these.
    across, lean, height = across * d, lean * a - across * b, height * a
    common = gcd(across, lean, height)
    across, lean, height = across // common, lean // common, height // common
    # The sum below has no common divisor with across, so that u is no multiple of
    # another member of the first lattice and a second point completes it.
    along = lean + part_apart(across, lean) * height
    _, s, t = bezout(across, along)
    r = Ratio(common, a * d)
    u = Point(Ratio(a * across, wide), Ratio(b * across + d * along, high))
    return Lines(u, Point(Ratio(-a * t, wide), Ratio(d * s - b * t, high)), r, r * (across * height))


def fits(lines, one, other):
    """True if these are common lines of two lattices in this order."""
    if not cross(lines.u, lines.v) or lines.r <= 0 or lines.s <= 0:
        return False
    if lines.s.top * lines.r.bottom % (lines.s.bottom * lines.r.top) != 0:
        return False
    first, second = lines.lattices()
    return first == one and second == other


def whole_parts(number, ratio):
    """Integers m, n with m + n * ratio = number, or None; the ratio is above 0."""
    if ratio.bottom % number.bottom != 0:
        return None
    told = number.top * (ratio.bottom // number.bottom)
    _, _, t = bezout(ratio.bottom, ratio.top)
    many = told * t % ratio.bottom
    return (told - many * ratio.top) // ratio.bottom, many


def split(point, one, other):
    """A member of the one lattice and one of the other that add up to the point, or None."""
    lines = lines_of(one, other)
    area = cross(lines.u, lines.v)
    first = whole_parts(cross(point, lines.v).over(area), lines.r)
    second = whole_parts(cross(lines.u, point).over(area), lines.s)
    if first is None or second is None:
        return None
    near = lines.u * first[0] + lines.v * second[0]
    return near, point - near
