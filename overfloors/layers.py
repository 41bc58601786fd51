"""Layers: a point together with a lattice, the set of all points that the lattice makes of it."""

from math import gcd

from overfloors.errors import BadPoint
from overfloors.lattices import Lattice, common_bottom
from overfloors.points import Point
from overfloors.ratios import Ratio, bezout, is_number


def scaled(number, many):
    """A Ratio taken so many times, where this makes an integer."""
    return number.top * (many // number.bottom)


def scales_of(layers):
    """Two integers: how many times the coordinates x and y of all points of layers make them whole."""
    lattices = [layer.lattice for layer in layers]
    points = [layer.point for layer in layers]
    across = common_bottom([lattice.a for lattice in lattices] + [point.x for point in points])
    leans = [lattice.b for lattice in lattices]
    return across, common_bottom(leans + [lattice.d for lattice in lattices] + [point.y for point in points])


def grid_of(layer, across, upward):
    """The grid of a layer: integers (x, y, a, b, d), its point and the table of its lattice so many times."""
    point, lattice = layer.point, layer.lattice
    lean, height = scaled(lattice.b, upward), scaled(lattice.d, upward)
    return scaled(point.x, across), scaled(point.y, upward), scaled(lattice.a, across), lean, height


def layer_of(grid, across, upward):
    """The layer of a grid."""
    x, y, a, b, d = grid
    lattice = Lattice([Point(Ratio(a, across), Ratio(b, upward)), Point(0, Ratio(d, upward))])
    return Layer(Point(Ratio(x, across), Ratio(y, upward)), lattice)


def common_columns(one, other):
    """The columns that two grids have in common, or None.

    Told are the x of one column, how far apart they are, and for each grid a height in this column
    and how much higher one is in the next one.
    """
    x, y, a, b, _ = one
    left, low, width, lean, _ = other
    common, s, _ = bezout(a, width)
    if (left - x) % common != 0:
        return None
    i = (left - x) // common * s % (width // common)
    first = x + i * a
    j = (first - left) // width
    heights = (y + i * b, width // common * b), (low + j * lean, a // common * lean)
    return first, width // common * a, heights[0], heights[1]


def meet(one, other):
    """True if two layers have a common point."""
    across, upward = scales_of([one, other])
    first, second = grid_of(one, across, upward), grid_of(other, across, upward)
    columns = common_columns(first, second)
    if columns is None:
        return False
    (height, lean), (other_height, other_lean) = columns[2:]
    return (other_height - height) % gcd(gcd(first[4], second[4]), other_lean - lean) == 0


def common_grid(one, other):
    """The grid of all points that two grids have in common, or None."""
    columns = common_columns(one, other)
    if columns is None:
        return None
    x, a, (first, first_lean), (second, second_lean) = columns
    # In every column the heights of both are progressions, which meet where they agree
    # modulo what their distances have in common.
    common, s, _ = bezout(one[4], other[4])
    part, t, _ = bezout(second_lean - first_lean, common)
    if (first - second) % part != 0:
        return None
    step = common // part
    many = (first - second) // part * t % step
    first, second = first + many * first_lean, second + many * second_lean
    apart = other[4] // common
    y = first + one[4] * ((second - first) // common * s % apart)
    rise = step * (second_lean - first_lean) // common * s % apart
    d = one[4] * apart
    return x + many * a, y, a * step, (step * first_lean + one[4] * rise) % d, d


class Layer:
    """All sums of a point and a member of a lattice, told by the rest of the point."""

    def __init__(self, point, lattice):
        if not isinstance(point, Point):
            raise BadPoint(point)
        if not isinstance(lattice, Lattice):
            raise BadPoint(lattice)
        self.point = lattice.rest(point)
        self.lattice = lattice

    @property
    def thickness(self):
        """The number of points on each unit of area."""
        return Ratio(1).over(self.lattice.cell)

    def shifted(self, point):
        """The layer moved by a point."""
        return Layer(self.point + point, self.lattice)

    def moved(self, motion):
        """The layer of the images of the points."""
        return Layer(motion(self.point), self.lattice.moved(motion))

    def __contains__(self, point):
        return point - self.point in self.lattice

    def __eq__(self, other):
        return isinstance(other, Layer) and self.point == other.point and self.lattice == other.lattice

    def __le__(self, other):
        if not isinstance(other, Layer):
            return NotImplemented
        return self.point in other and self.lattice <= other.lattice

    def __and__(self, other):
        if not isinstance(other, Layer):
            return NotImplemented
        across, upward = scales_of([self, other])
        grid = common_grid(grid_of(self, across, upward), grid_of(other, across, upward))
        return None if grid is None else layer_of(grid, across, upward)

    def __neg__(self):
        return Layer(-self.point, self.lattice)

    def __add__(self, other):
        if not isinstance(other, Layer):
            return NotImplemented
        return Layer(self.point + other.point, self.lattice + other.lattice)

    def __sub__(self, other):
        if not isinstance(other, Layer):
            return NotImplemented
        return Layer(self.point - other.point, self.lattice + other.lattice)

    def __mul__(self, other):
        if not is_number(other):
            return NotImplemented
        multiple = self.lattice * other
        return Layer(self.point * other, multiple)

    def __rmul__(self, other):
        if not is_number(other):
            return NotImplemented
        return self * other
