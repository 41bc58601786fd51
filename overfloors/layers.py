"""Layers: a point together with a lattice, the set of all points that the lattice makes of it."""

from math import gcd, lcm

from overfloors.errors import BadPoint
from overfloors.lattices import Lattice, Table, is_member, rest_by
from overfloors.points import Point
from overfloors.ratios import Ratio, bezout, is_number


def scales_of(layers):
    """Two integers: how many times the coordinates x and y of all points of layers make them whole."""
    across, upward = 1, 1
    for layer in layers:
        table, point = layer.lattice.table, layer.point
        across, upward = lcm(across, table.across, point.x.bottom), lcm(upward, table.upward, point.y.bottom)
    return across, upward


def grid_of(layer, across, upward):
    """The grid of a layer: integers (x, y, a, b, d), its point and the table of its lattice so many times."""
    table, x, y = layer.lattice.table, layer.point.x, layer.point.y
    many = upward // table.upward
    left, low = x.top * (across // x.bottom), y.top * (upward // y.bottom)
    return left, low, table.a * (across // table.across), table.b * many, table.d * many


def layer_of(grid, across, upward):
    """The layer of a grid."""
    x, y, a, b, d = grid
    x, y = rest_by((a, b, d), x, y)
    return Layer(Point(Ratio(x, across), Ratio(y, upward)), Lattice(Table(a, b, d, across, upward)))


def joint_cell(one, other):
    """The cell of the sum of the lattices of two grids, None if the grids have no common point."""
    x, y, a, b, d = one
    left, low, width, lean, height = other
    left, low, part = left - x, low - y, gcd(d, height)
    cell = gcd(a * part, width * part, a * lean - width * b)
    # The difference of the points is in the sum exactly if it makes areas with all rows that are
    # multiples of the cell.
    if left * part % cell != 0 or (a * low - b * left) % cell != 0 or (width * low - lean * left) % cell != 0:
        return None
    return cell


def meet(one, other):
    """True if two layers have a common point."""
    across, upward = scales_of([one, other])
    return joint_cell(grid_of(one, across, upward), grid_of(other, across, upward)) is not None


def common_grid(one, other):
    """The grid of all points that two grids have in common, or None."""
    x, y, a, b, d = one
    left, low, width, lean, height = other
    part, s, _ = bezout(a, width)
    if (left - x) % part != 0:
        return None
    # In their first common column both have heights, which rise by so much up to the next one.
    many = (left - x) // part * s % (width // part)
    x = x + many * a
    first, second = y + many * b, low + (x - left) // width * lean
    rise, climb = width // part * b, a // part * lean
    # In every column the heights of both are progressions, which meet where they agree
    # modulo what their distances have in common.
    common, s, _ = bezout(d, height)
    common_rise, t, _ = bezout(climb - rise, common)
    if (first - second) % common_rise != 0:
        return None
    step, apart = common // common_rise, height // common
    many = (first - second) // common_rise * t % step
    first, second = first + many * rise, second + many * climb
    y = first + d * ((second - first) // common * s % apart)
    lean = step * rise + d * (step * (climb - rise) // common * s % apart)
    return x + many * (width // part * a), y, width // part * a * step, lean % (d * apart), d * apart


class Layer:
    """All sums of a point and a member of a lattice, told by the rest of the point."""

    def __init__(self, point, lattice):
        if not isinstance(point, Point):
            raise BadPoint(point)
        if not isinstance(lattice, Lattice):
            raise BadPoint(lattice)
        self.point = lattice.rest(point)
        self.lattice = lattice

    @property
    def thickness(self):
        """The number of points on each unit of area."""
        table = self.lattice.table
        return Ratio(table.across * table.upward, table.a * table.d)

    def shifted(self, point):
        """The layer moved by a point."""
        return Layer(self.point + point, self.lattice)

    def moved(self, motion):
        """The layer of the images of the points."""
        return Layer(motion(self.point), self.lattice.moved(motion))

    def __contains__(self, point):
        one, other = point.x, self.point.x
        left = one.top * other.bottom - other.top * one.bottom
        across = one.bottom * other.bottom
        one, other = point.y, self.point.y
        low = one.top * other.bottom - other.top * one.bottom
        return is_member(self.lattice.table, left, across, low, one.bottom * other.bottom)

    def __eq__(self, other):
        return isinstance(other, Layer) and self.point == other.point and self.lattice == other.lattice

    def __le__(self, other):
        if not isinstance(other, Layer):
            return NotImplemented
        return self.point in other and self.lattice <= other.lattice

    def __and__(self, other):
        if not isinstance(other, Layer):
            return NotImplemented
        across, upward = scales_of([self, other])
        grid = common_grid(grid_of(self, across, upward), grid_of(other, across, upward))
        return None if grid is None else layer_of(grid, across, upward)

    def __neg__(self):
        return Layer(-self.point, self.lattice)

    def __add__(self, other):
        if not isinstance(other, Layer):
            return NotImplemented
        return Layer(self.point + other.point, self.lattice + other.lattice)

    def __sub__(self, other):
        if not isinstance(other, Layer):
            return NotImplemented
        return Layer(self.point - other.point, self.lattice + other.lattice)

    def __mul__(self, other):
        if not is_number(other):
            return NotImplemented
        multiple = self.lattice * other
        return Layer(self.point * other, multiple)

    def __rmul__(self, other):
        if not is_number(other):
            return NotImplemented
        return self * other
