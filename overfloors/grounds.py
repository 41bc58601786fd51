"""Grounds: squared lengths, told by the form a x x + b x y + c y y."""

from overfloors.errors import BadNumber, BadPoint, NotPositive
from overfloors.points import Point
from overfloors.ratios import Ratio, is_int


class Ground:
    """The ground in which the squared length of (x, y) is a x x + b x y + c y y."""

    def __init__(self, a, b, c):
        for value in (a, b, c):
            if not is_int(value):
                raise BadNumber(value)
        if a <= 0 or 4 * a * c <= b * b:
            raise NotPositive(a, b, c)
        self.a = a
        self.b = b
        self.c = c

    def measure(self, point):
        """The squared length of a point."""
        if not isinstance(point, Point):
            raise BadPoint(point)
        # Sums and products of integers are far faster than those of Ratios.
        across, upward = point.x.bottom, point.y.bottom
        x, y = point.x.top * upward, point.y.top * across
        return Ratio(self.whole_measure(x, y), across * across * upward * upward)

    def whole_measure(self, x, y):
        """The squared length of a point that two integers tell."""
        return (self.a * x + self.b * y) * x + self.c * y * y

    def whole_pair(self, one, other):
        """The pair of two points that two integers each tell."""
        x, y = one
        z, w = other
        return 2 * self.a * x * z + self.b * (x * w + y * z) + 2 * self.c * y * w

    def pair(self, one, other):
        """The measure of the sum of two points less the measures of both."""
        for point in (one, other):
            if not isinstance(point, Point):
                raise BadPoint(point)
        across, upward = one.x.bottom, one.y.bottom
        width, height = other.x.bottom, other.y.bottom
        first = one.x.top * upward, one.y.top * across
        second = other.x.top * height, other.y.top * width
        return Ratio(self.whole_pair(first, second), across * upward * width * height)

    def __eq__(self, other):
        return isinstance(other, Ground) and self.a == other.a and self.b == other.b and self.c == other.c
