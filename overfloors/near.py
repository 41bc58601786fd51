"""Nearest places of layers: to a point, within a measure, and of layers to one another.

Steps are told by rows of integers, which are so many times as long as the steps.
"""

from math import isqrt, lcm

from overfloors.bases import area_of, least_rows, row_point, steps_around
from overfloors.errors import BadNumber, BadPoint, TooMany
from overfloors.order import ranked
from overfloors.points import Point, ascending_points
from overfloors.ratios import Ratio, is_int, is_number, ratio_of

GREATEST_MOST = 2000


def seen_from(ground, layer, point):
    """(many, u, v, w): a least base (u, v) of a layer and the step w to a point, by integers so many times as great."""
    times, u, v, _ = least_rows(ground, layer.lattice)
    step = point - layer.point
    x, y = step.x, step.y
    many = lcm(times, x.bottom, y.bottom)
    more = many // times
    w = x.top * (many // x.bottom), y.top * (many // y.bottom)
    return many, (u[0] * more, u[1] * more), (v[0] * more, v[1] * more), w


def corner_steps(u, v, w):
    """The steps from a point to four places of a layer, all nearest ones among them."""
    area = area_of(u, v)
    # Neither of the two triangles of this cell has an obtuse angle.
    i, j = area_of(w, v) // area, area_of(u, w) // area
    x, y = u[0] * i + v[0] * j - w[0], u[1] * i + v[1] * j - w[1]
    return [(x, y), (x + u[0], y + u[1]), (x + v[0], y + v[1]), (x + u[0] + v[0], y + u[1] + v[1])]


def shortest(ground, steps):
    """The least measure of some steps, and the list of the steps that have it, each once, ordered by x, then by y."""
    measures = [ground.whole_measure(x, y) for x, y in steps]
    least = min([int(measure) for measure in measures])
    found = []
    for step, measure in zip(steps, measures):
        if measure == least and step not in found:
            found.append(step)
    return least, [found[index] for index in ranked(found)]


def placed(point, steps, many):
    """The places to which steps lead from a point."""
    across, upward = lcm(point.x.bottom, many), lcm(point.y.bottom, many)
    left, low = point.x.top * (across // point.x.bottom), point.y.top * (upward // point.y.bottom)
    wide, high = across // many, upward // many
    return [Point(Ratio(left + x * wide, across), Ratio(low + y * high, upward)) for x, y in steps]


def closest(ground, layer, point):
    """How many times the steps are told, the least measure from a point to a layer, and the steps that have it."""
    if not isinstance(point, Point):
        raise BadPoint(point)
    many, u, v, w = seen_from(ground, layer, point)
    least, steps = shortest(ground, corner_steps(u, v, w))
    return many, least, steps


def nearest(ground, layer, point):
    """All places of a layer that are nearest to a point, ordered by x, then by y."""
    many, _, steps = closest(ground, layer, point)
    return placed(point, steps, many)


def distance(ground, layer, point):
    """The measure between a point and the nearest places of a layer."""
    many, least, _ = closest(ground, layer, point)
    return Ratio(least, many * many)


def rows_within(ground, base, step, bound, most):
    """The rows (j, first i, last i) of the integers i, j whose step i u + j v from the step has at most a measure.

    The base (u, v) is a least one. TooMany(most) comes if there are more than most such i, j.
    """
    u, v = base
    p, q = ground.whole_measure(u[0], u[1]), ground.whole_pair(u, v)
    cell, extent = abs(area_of(u, v)), 4 * ground.a * ground.c - ground.b * ground.b
    side = 1 if area_of(u, v) > 0 else -1
    # 4 p times the measure of s u + t v is the square of 2 p s + q t and extent times that of t * cell.
    # The figures of the step along the base are taken as often as the cell here, to be whole.
    x, y = area_of(step, v) * side, area_of(u, step) * side
    reach = isqrt(4 * p * bound // extent)
    found = []
    many = 0
    # All rows but perhaps the first ones and the last ones have a place, since the base is a
    # least one: so many places show soon.
    for at in range(-((reach - y) // cell), (reach + y) // cell + 1):
        up = at * cell - y
        root = isqrt(cell * cell * (4 * p * bound - extent * up * up))
        middle = 2 * p * x - q * up
        first, last = -((root - middle) // (2 * p * cell)), (root + middle) // (2 * p * cell)
        many = many + max(0, last - first + 1)
        if many > most:
            raise TooMany(most)
        found.append((at, first, last))
    return found


def within(ground, layer, point, far, *, most=200):
    """All places of a layer at the measure far at most from a point, ordered by this measure, then by x and y."""
    if not isinstance(point, Point):
        raise BadPoint(point)
    if not is_number(far) or far < 0:
        raise BadNumber(far)
    if not is_int(most) or most < 0 or most > GREATEST_MOST:
        raise BadNumber(most)
    many, u, v, w = seen_from(ground, layer, point)
    bound = (ratio_of(far) * (many * many)).floor()
    steps = []
    for j, first, last in rows_within(ground, (u, v), w, bound, most):
        left, low = v[0] * j - w[0], v[1] * j - w[1]
        steps.extend([(left + u[0] * i, low + u[1] * i) for i in range(first, last + 1)])
    order = ranked([(ground.whole_measure(x, y), x, y) for x, y in steps])
    return placed(point, [steps[index] for index in order], many)


def differences(one, other):
    """The layer of all differences of a place of the layer other and one of the layer one."""
    return other - one


def short_steps(ground, layer):
    """How many times steps are told, the least measure of the points of a layer but (0, 0), and those that have it."""
    if Point(0, 0) not in layer:
        return closest(ground, layer, Point(0, 0))
    times, u, v, _ = least_rows(ground, layer.lattice)
    least, steps = shortest(ground, steps_around(u, v))
    return times, least, steps


def gap(ground, ones, others):
    """The least measure above 0 between places of two lists of layers, and all differences that have it."""
    shortest_ones = [short_steps(ground, differences(one, other)) for one in ones for other in others]
    measures = [Ratio(measure, many * many) for many, measure, _ in shortest_ones]
    least = measures[0]
    for measure in measures[1:]:
        if measure < least:
            least = measure
    found = []
    for measure, (many, _, steps) in zip(measures, shortest_ones):
        if measure == least:
            found.extend([point for point in [row_point(step, many) for step in steps] if point not in found])
    return least, ascending_points(found)


def least_shifts(ground, one, other):
    """All shortest points by which the layer one can be moved to have a place in common with the layer other."""
    return nearest(ground, differences(one, other), Point(0, 0))
