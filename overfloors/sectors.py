"""The turn with the least index among those whose directions lie in a sector."""

from math import gcd

from overfloors.bases import area_of, shortened, steps_around
from overfloors.errors import Flat
from overfloors.grounds import Ground
from overfloors.lattices import common_rows
from overfloors.points import Point, cross
from overfloors.ratios import bezout, divisors_of
from overfloors.turns import extent, index_by, lifted, lowered, plain_form, whole_on, without_divisor


def simplest_between(one, other):
    """The whole (x, y) strictly between two directions whose x and y are both the least ones.

    The figures of both are integers from 0 on, and the second one is to the left of the first one.
    """
    taken = []
    while True:
        many = one[1] // one[0]
        if (many + 1) * other[0] < other[1]:
            break
        # (1, many + 1) is not right of the second direction. So what is right of (1, many) is
        # taken away, and the rest is mirrored, by which the second one becomes the first one.
        taken.append(many)
        one, other = (other[1] - many * other[0], other[0]), (one[1] - many * one[0], one[0])
    x, y = 1, many + 1
    for steps in taken[::-1]:
        x, y = y, x + steps * y
    return x, y


def rows_where(first, second, number):
    """The rows (a, b, d) of the lattice of the whole points (m, n) for which first * m + second * n is a multiple."""
    common, s, _ = bezout(second, number)
    a = common // gcd(first, common)
    d = number // common
    return a, -(first * a // common) * s % d, d


def with_divisor(ground, number):
    """Two whole points that make the lattice of the lifted points whose common divisor g of [29] is a multiple."""
    # Both linear parts of g are multiples of the number here.
    a, b, d = common_rows(rows_where(2, ground.b, number), rows_where(ground.b, 2 * ground.c, number))
    # Now twice the measure is a multiple, too; whether the measure is one is told by
    # a figure that adds up modulo 2 with the points.
    odd, high = ground.whole_measure(a, b) % number != 0, ground.whole_measure(0, d) % number != 0
    if odd and high:
        return (a, b + d), (0, 2 * d)
    return (2 * a, 2 * b) if odd else (a, b), (0, 2 * d if high else d)


def spokes_of(ground, one, other):
    """The six steps around (0, 0) of a least base of the lattice of two whole points, from right to left."""
    u, v, _ = shortened(ground, one, other)
    return steps_around(u, v) if area_of(u, v) > 0 else steps_around(v, u)


def shortest_between(ground, number, one, other):
    """Some lifted points with a common divisor strictly between two directions, all shortest ones among them."""
    first, second = with_divisor(ground, number)
    spokes = spokes_of(ground, first, second)
    between = [spoke for spoke in spokes if area_of(one, spoke) > 0 and area_of(spoke, other) > 0]
    if len(between) > 0:
        return between
    for right, left in zip(spokes, spokes[1:] + spokes[:1]):
        figures = [(area_of(point, left), area_of(right, point)) for point in (one, other)]
        if all([x >= 0 and y >= 0 for x, y in figures]):
            # A sum x * right + y * left gets longer with x and with y.
            x, y = simplest_between(figures[0], figures[1])
            between.append((right[0] * x + left[0] * y, right[1] * x + left[1] * y))
    return between


def lifted_point(form, point):
    """The lifted direction of a point."""
    x, y = whole_on(point)
    return lifted(form, x, y)


def least_turn(ground, one, other):
    """The least index of a turn to a direction strictly between two points, with the first such direction."""
    if cross(one, other) <= 0:
        raise Flat()
    form = plain_form(ground)
    first, last = lifted_point(form, one), lifted_point(form, other)
    lifts = Ground(1, form[1], form[0] * form[2])
    least, found = None, first
    for number in divisors_of(extent(form)):
        for point in shortest_between(lifts, number, first, last):
            m, n = without_divisor(point[0], point[1])
            index = index_by(form, m, n)
            if least is None or index < least or (index == least and area_of(point, found) > 0):
                least, found = index, (m, n)
    x, y = lowered(form, found[0], found[1])
    return least, Point(x, y)
