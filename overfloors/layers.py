"""Layers: a point together with a lattice, the set of all points that the lattice makes of it."""

from overfloors.errors import BadPoint
from overfloors.lattices import Lattice
from overfloors.lines import split
from overfloors.points import Point
from overfloors.ratios import Ratio, is_number


class Layer:
    """All sums of a point and a member of a lattice, told by the rest of the point."""

    def __init__(self, point, lattice):
        if not isinstance(point, Point):
            raise BadPoint(point)
        if not isinstance(lattice, Lattice):
            raise BadPoint(lattice)
        self.point = lattice.rest(point)
        self.lattice = lattice

    @property
    def thickness(self):
        """The number of points on each unit of area."""
        return Ratio(1).over(self.lattice.cell)

    def shifted(self, point):
        """The layer moved by a point."""
        return Layer(self.point + point, self.lattice)

    def moved(self, motion):
        """The layer of the images of the points."""
        return Layer(motion(self.point), self.lattice.moved(motion))

    def __contains__(self, point):
        return point - self.point in self.lattice

    def __eq__(self, other):
        return isinstance(other, Layer) and self.point == other.point and self.lattice == other.lattice

    def __le__(self, other):
        if not isinstance(other, Layer):
            return NotImplemented
        return self.point in other and self.lattice <= other.lattice

    def __and__(self, other):
        if not isinstance(other, Layer):
            return NotImplemented
        parts = split(other.point - self.point, self.lattice, other.lattice)
        if parts is None:
            return None
        return Layer(self.point + parts[0], self.lattice & other.lattice)

    def __neg__(self):
        return Layer(-self.point, self.lattice)

    def __add__(self, other):
        if not isinstance(other, Layer):
            return NotImplemented
        return Layer(self.point + other.point, self.lattice + other.lattice)

    def __sub__(self, other):
        if not isinstance(other, Layer):
            return NotImplemented
        return Layer(self.point - other.point, self.lattice + other.lattice)

    def __mul__(self, other):
        if not is_number(other):
            return NotImplemented
        multiple = self.lattice * other
        return Layer(self.point * other, multiple)

    def __rmul__(self, other):
        if not is_number(other):
            return NotImplemented
        return self * other
