"""Common lines of two lattices, and what they tell of both."""

from math import gcd

from overfloors.lattices import Lattice, common_bottom
from overfloors.points import cross
from overfloors.ratios import Ratio, bezout, ratio_of


class Lines:
    """Common lines: two points u, v of one lattice, and the Ratios r, s that lead to the other."""

    def __init__(self, u, v, r, s):
        self.u = u
        self.v = v
        self.r = ratio_of(r)
        self.s = ratio_of(s)

    def lattices(self):
        """The lattice of u and v, and that of r * u and s * v."""
        return Lattice([self.u, self.v]), Lattice([self.u * self.r, self.v * self.s])

    def common(self):
        """The common part of both lattices."""
        return Lattice([self.u * self.r.top, self.v * self.s.top])

    def joint(self):
        """The sum of both lattices."""
        return Lattice([self.u * Ratio(1, self.r.bottom), self.v * Ratio(1, self.s.bottom)])


def part_apart(number, other):
    """The greatest divisor of a number above 0 that has no common divisor with the other one."""
    left = number
    common = gcd(left, other)
    while common > 1:
        left = left // common
        # Squares keep the rounds few where a prime divides the number very often.
        common = gcd(left, common * common)
    return left


def lines_of(one, other):
    """Common lines of two lattices."""
    upper, lower = one.rows()
    first, second = [one.steps(row) for row in other.rows()]
    ratios = (first[0], first[1], second[1])
    bottom = common_bottom(ratios)
    across, lean, height = [ratio.top * (bottom // ratio.bottom) for ratio in ratios]
    common = gcd(gcd(across, lean), height)
    across, lean, height = across // common, lean // common, height // common
    # The sum below has no common divisor with across, so that u is no multiple of
    # another member of the first lattice and a second point completes it.
    along = lean + part_apart(across, lean) * height
    _, s, t = bezout(across, along)
    r = Ratio(common, bottom)
    return Lines(upper * across + lower * along, lower * s - upper * t, r, r * across * height)


def fits(lines, one, other):
    """True if these are common lines of two lattices in this order."""
    if not cross(lines.u, lines.v) or lines.r <= 0 or lines.s <= 0:
        return False
    if not lines.s.over(lines.r).whole():
        return False
    first, second = lines.lattices()
    return first == one and second == other


def whole_parts(number, ratio):
    """Integers m, n with m + n * ratio = number, or None; the ratio is above 0."""
    told = number * ratio.bottom
    if not told.whole():
        return None
    _, _, t = bezout(ratio.bottom, ratio.top)
    many = told.top * t % ratio.bottom
    return (told.top - many * ratio.top) // ratio.bottom, many


def split(point, one, other):
    """A member of the one lattice and one of the other that add up to the point, or None."""
    lines = lines_of(one, other)
    area = cross(lines.u, lines.v)
    first = whole_parts(cross(point, lines.v).over(area), lines.r)
    second = whole_parts(cross(lines.u, point).over(area), lines.s)
    if first is None or second is None:
        return None
    near = lines.u * first[0] + lines.v * second[0]
    return near, point - near
