"""Points of the plane and forms, which give each point a value."""

from overfloors.order import ranked
from overfloors.ratios import is_number, ratio_of


class Point:
    """A point with the coordinates x and y."""

    def __init__(self, x, y):
        self.x = ratio_of(x)
        self.y = ratio_of(y)

    def __bool__(self):
        return bool(self.x) or bool(self.y)

    def __eq__(self, other):
        return isinstance(other, Point) and self.x == other.x and self.y == other.y

    def __neg__(self):
        return Point(-self.x, -self.y)

    def __add__(self, other):
        if not isinstance(other, Point):
            return NotImplemented
        return Point(self.x + other.x, self.y + other.y)

    def __sub__(self, other):
        if not isinstance(other, Point):
            return NotImplemented
        return Point(self.x - other.x, self.y - other.y)

    def __mul__(self, other):
        if not is_number(other):
            return NotImplemented
        return Point(self.x * other, self.y * other)

    def __rmul__(self, other):
        if not is_number(other):
            return NotImplemented
        return self * other


class Form:
    """A form: its value at a point (p, q) is x * p + y * q."""

    def __init__(self, x, y):
        self.x = ratio_of(x)
        self.y = ratio_of(y)

    def __call__(self, point):
        return value_at(self, point)

    def __eq__(self, other):
        return isinstance(other, Form) and self.x == other.x and self.y == other.y

    def __neg__(self):
        return Form(-self.x, -self.y)

    def __add__(self, other):
        if not isinstance(other, Form):
            return NotImplemented
        return Form(self.x + other.x, self.y + other.y)

    def __sub__(self, other):
        if not isinstance(other, Form):
            return NotImplemented
        return Form(self.x - other.x, self.y - other.y)

    def __mul__(self, other):
        if not is_number(other):
            return NotImplemented
        return Form(self.x * other, self.y * other)

    def __rmul__(self, other):
        if not is_number(other):
            return NotImplemented
        return self * other


def cross(one, other):
    """The area of two points; 0 if they lie on one line with (0, 0)."""
    return one.x * other.y - one.y * other.x


def value_at(form, point):
    """The value of a form at a point."""
    return form.x * point.x + form.y * point.y


def ascending_points(points):
    """The points ordered by x, then by y."""
    return [points[index] for index in ranked([(point.x, point.y) for point in points])]


def carried(point, table):
    """The point to which the table ((a, b), (c, d)) of a motion takes a point."""
    above, below = table
    return Point(above[0] * point.x + above[1] * point.y, below[0] * point.x + below[1] * point.y)
