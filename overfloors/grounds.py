"""Grounds: squared lengths, told by the form a x x + b x y + c y y."""

from overfloors.errors import BadNumber, BadPoint, NotPositive
from overfloors.points import Point
from overfloors.ratios import is_int


class Ground:
    """The ground in which the squared length of (x, y) is a x x + b x y + c y y."""

    def __init__(self, a, b, c):
        for value in (a, b, c):
            if not is_int(value):
                raise BadNumber(value)
        if a <= 0 or 4 * a * c <= b * b:
            raise NotPositive(a, b, c)
        self.a = a
        self.b = b
        self.c = c

    def measure(self, point):
        """The squared length of a point."""
        if not isinstance(point, Point):
            raise BadPoint(point)
        return self.a * point.x * point.x + self.b * point.x * point.y + self.c * point.y * point.y

    def pair(self, one, other):
        """The measure of the sum of two points less the measures of both."""
        for point in (one, other):
            if not isinstance(point, Point):
                raise BadPoint(point)
        both = one.x * other.y + one.y * other.x
        return 2 * self.a * one.x * other.x + self.b * both + 2 * self.c * one.y * other.y

    def __eq__(self, other):
        return isinstance(other, Ground) and self.a == other.a and self.b == other.b and self.c == other.c
