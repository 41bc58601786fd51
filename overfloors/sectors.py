"""The turn with the least index among those whose directions lie in a sector."""

from overfloors.bases import least_pair, steps_around
from overfloors.errors import Flat
from overfloors.grounds import Ground
from overfloors.lattices import Lattice
from overfloors.points import Point, cross
from overfloors.ratios import Ratio, divisors_of
from overfloors.turns import extent, index_by, lifted, lowered, plain_form, whole_on


def lies_between(point, one, other):
    """True for a point strictly between two directions that are less than a half turn apart."""
    return cross(one, point) > 0 and cross(point, other) > 0


def simplest_between(one, other):
    """The whole (x, y) strictly between two directions whose x and y are both the least ones.

    The figures of both are integers from 0 on, and the second one is to the left of the first one.
    """
    taken = []
    while True:
        many = one[1] // one[0]
        if (many + 1) * other[0] < other[1]:
            break
        # (1, many + 1) is not right of the second direction. So what is right of (1, many) is
        # taken away, and the rest is mirrored, by which the second one becomes the first one.
        taken.append(many)
        one, other = (other[1] - many * other[0], other[0]), (one[1] - many * one[0], one[0])
    x, y = 1, many + 1
    for steps in taken[::-1]:
        x, y = y, x + steps * y
    return x, y


def with_divisor(ground, number):
    """The lattice of the lifted points whose common divisor g of [29] is a multiple of a number."""
    double = 2 * ground.c
    tests = [Point(Ratio(2, number), Ratio(ground.b, number)), Point(Ratio(ground.b, number), Ratio(double, number))]
    # Both linear parts of g are multiples of the number where these two are whole.
    lattice = Lattice([Point(1, 0), Point(0, 1), *tests]).dual()
    first, second = lattice.rows()
    # Here twice the measure is a multiple, too; whether the measure is one is told by
    # a figure that adds up modulo 2 with the points.
    odd = [bool(ground.measure(row) % number) for row in (first, second)]
    if odd[0] and odd[1]:
        return Lattice([first + second, second * 2])
    return Lattice([first * (2 if odd[0] else 1), second * (2 if odd[1] else 1)])


def spokes_of(ground, lattice):
    """The six steps around (0, 0) of a least base, from right to left."""
    u, v = least_pair(ground, lattice)
    return steps_around(u, v) if cross(u, v) > 0 else steps_around(v, u)


def shortest_between(ground, lattice, one, other):
    """Some points of a lattice strictly between two directions, all shortest ones among them."""
    spokes = spokes_of(ground, lattice)
    between = [spoke for spoke in spokes if lies_between(spoke, one, other)]
    if len(between) > 0:
        return between
    for right, left in zip(spokes, spokes[1:] + spokes[:1]):
        figures = [(cross(point, left), cross(right, point)) for point in (one, other)]
        if all([x >= 0 and y >= 0 for x, y in figures]):
            # A sum x * right + y * left gets longer with x and with y.
            first, second = [whole_on(Point(x, y)) for x, y in figures]
            x, y = simplest_between(first, second)
            between.append(right * x + left * y)
    return between


def lifted_point(form, point):
    """The lifted direction of a point, as a Point."""
    x, y = whole_on(point)
    m, n = lifted(form, x, y)
    return Point(m, n)


def least_turn(ground, one, other):
    """The least index of a turn to a direction strictly between two points, with the first such direction."""
    if cross(one, other) <= 0:
        raise Flat()
    form = plain_form(ground)
    first, last = lifted_point(form, one), lifted_point(form, other)
    lifts = Ground(1, form[1], form[0] * form[2])
    least, found = None, first
    for number in divisors_of(extent(form)):
        for point in shortest_between(lifts, with_divisor(lifts, number), first, last):
            m, n = whole_on(point)
            index = index_by(form, m, n)
            if least is None or index < least or (index == least and cross(point, found) > 0):
                least, found = index, point
    m, n = whole_on(found)
    x, y = lowered(form, m, n)
    return least, Point(x, y)
