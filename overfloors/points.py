"""Points of the plane and forms, which give each point a value."""

from overfloors.order import ranked
from overfloors.ratios import Ratio, is_number, order_keys, ratio_of


def added(one, other):
    """The sum of two Ratios."""
    return Ratio(one.top * other.bottom + other.top * one.bottom, one.bottom * other.bottom)


def taken(one, other):
    """The difference of two Ratios."""
    return Ratio(one.top * other.bottom - other.top * one.bottom, one.bottom * other.bottom)


def summed(one, other, another, last):
    """The sum of two products of two Ratios each: one * other + another * last."""
    first, second = one.bottom * other.bottom, another.bottom * last.bottom
    return Ratio(one.top * other.top * second + another.top * last.top * first, first * second)


class Point:
    """A point with the coordinates x and y."""

    def __init__(self, x, y):
        self.x = x if isinstance(x, Ratio) else ratio_of(x)
        self.y = y if isinstance(y, Ratio) else ratio_of(y)

    def __bool__(self):
        return bool(self.x.top != 0 or self.y.top != 0)

    def __eq__(self, other):
        if not isinstance(other, Point) or self.x.top != other.x.top or self.x.bottom != other.x.bottom:
            return False
        return self.y.top == other.y.top and self.y.bottom == other.y.bottom

    def __neg__(self):
        return Point(-self.x, -self.y)

    def __add__(self, other):
        if not isinstance(other, Point):
            return NotImplemented
        return Point(added(self.x, other.x), added(self.y, other.y))

    def __sub__(self, other):
        if not isinstance(other, Point):
            return NotImplemented
        return Point(taken(self.x, other.x), taken(self.y, other.y))

    def __mul__(self, other):
        if not is_number(other):
            return NotImplemented
        return Point(self.x * other, self.y * other)

    def __rmul__(self, other):
        if not is_number(other):
            return NotImplemented
        return Point(self.x * other, self.y * other)


class Form:
    """A form: its value at a point (p, q) is x * p + y * q."""

    def __init__(self, x, y):
        self.x = x if isinstance(x, Ratio) else ratio_of(x)
        self.y = y if isinstance(y, Ratio) else ratio_of(y)

    def __call__(self, point):
        return value_at(self, point)

    def __eq__(self, other):
        return isinstance(other, Form) and self.x == other.x and self.y == other.y

    def __neg__(self):
        return Form(-self.x, -self.y)

    def __add__(self, other):
        if not isinstance(other, Form):
            return NotImplemented
        return Form(added(self.x, other.x), added(self.y, other.y))

    def __sub__(self, other):
        if not isinstance(other, Form):
            return NotImplemented
        return Form(taken(self.x, other.x), taken(self.y, other.y))

    def __mul__(self, other):
        if not is_number(other):
            return NotImplemented
        return Form(self.x * other, self.y * other)

    def __rmul__(self, other):
        if not is_number(other):
            return NotImplemented
        return Form(self.x * other, self.y * other)


def cross(one, other):
    """The area of two points; 0 if they lie on one line with (0, 0)."""
    first, second = one.x.bottom * other.y.bottom, one.y.bottom * other.x.bottom
    return Ratio(one.x.top * other.y.top * second - one.y.top * other.x.top * first, first * second)


def value_at(form, point):
    """The value of a form at a point."""
    return summed(form.x, point.x, form.y, point.y)


def ranked_points(points):
    """The indexes of some points ordered by x, then by y."""
    if len(points) < 2:
        return list(range(len(points)))
    across = order_keys([point.x for point in points])
    upward = order_keys([point.y for point in points])
    return ranked(list(zip(across, upward)))


def ascending_points(points):
    """The points ordered by x, then by y."""
    return [points[index] for index in ranked_points(points)]


def carried(point, table):
    """The point to which the table ((a, b), (c, d)) of a motion takes a point."""
    (a, b), (c, d) = table
    return Point(summed(a, point.x, b, point.y), summed(c, point.x, d, point.y))
