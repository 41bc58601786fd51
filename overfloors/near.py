"""Nearest places of layers: to a point, within a measure, and of layers to one another."""

from math import isqrt

from overfloors.bases import figures_by, least_pair, shape_by, steps_around
from overfloors.errors import BadNumber, BadPoint, TooMany
from overfloors.order import ranked
from overfloors.points import Point, ascending_points
from overfloors.ratios import is_int, is_number, order_keys, ratio_of

GREATEST_MOST = 2000


def shortest(ground, points):
    """The least measure of some points, and the list of the points that have it, each once, ordered by x, then by y."""
    measures = [ground.measure(point) for point in points]
    least = measures[0]
    for measure in measures[1:]:
        if measure < least:
            least = measure
    found = []
    for point, measure in zip(points, measures):
        if measure == least and point not in found:
            found.append(point)
    return least, ascending_points(found)


def corners(ground, layer, point):
    """Four places of a layer, all nearest ones to a point among them."""
    u, v = least_pair(ground, layer.lattice)
    x, y = figures_by(u, v, point - layer.point)
    # Neither of the two triangles of this cell has an obtuse angle.
    corner = layer.point + u * x.floor() + v * y.floor()
    return [corner, corner + u, corner + v, corner + u + v]


def closest(ground, layer, point):
    """The least measure from a point to a layer, and the list of the places that have it."""
    if not isinstance(point, Point):
        raise BadPoint(point)
    found = [place - point for place in corners(ground, layer, point)]
    least, steps = shortest(ground, found)
    return least, [point + step for step in steps]


def nearest(ground, layer, point):
    """All places of a layer that are nearest to a point, ordered by x, then by y."""
    return closest(ground, layer, point)[1]


def distance(ground, layer, point):
    """The measure between a point and the nearest places of a layer."""
    return closest(ground, layer, point)[0]


def steps_about(centre, square):
    """The least and the greatest integer whose difference to a Ratio has at most this square."""
    reach = isqrt((square * centre.bottom * centre.bottom).floor())
    return -((reach - centre.top) // centre.bottom), (reach + centre.top) // centre.bottom


def rows_within(shape, x, y, far, most):
    """The rows (j, first i, last i) of the integers i, j whose measure from (x, y) is at most far.

    The measure of (i, j) is told by the shape of a least base. TooMany(most) comes if there are
    more than most such i, j.
    """
    p, q, r = shape
    lean = q.over(2 * p)
    height = r - lean * lean * p
    low, high = steps_about(y, far.over(height))
    found = []
    many = 0
    # All rows but perhaps the first ones and the last ones have a place, since the base is a
    # least one: so many places show soon.
    for at in range(low, high + 1):
        up = at - y
        first, last = steps_about(x - lean * up, (far - height * up * up).over(p))
        many = many + max(0, last - first + 1)
        if many > most:
            raise TooMany(most)
        found.append((at, first, last))
    return found


def within(ground, layer, point, far, *, most=200):
    """All places of a layer at the measure far at most from a point, ordered by this measure, then by x and y."""
    if not isinstance(point, Point):
        raise BadPoint(point)
    if not is_number(far) or far < 0:
        raise BadNumber(far)
    if not is_int(most) or most < 0 or most > GREATEST_MOST:
        raise BadNumber(most)
    u, v = least_pair(ground, layer.lattice)
    x, y = figures_by(u, v, point - layer.point)
    rows = rows_within(shape_by(ground, u, v), x, y, ratio_of(far), most)
    found = [layer.point + u * i + v * j for j, first, last in rows for i in range(first, last + 1)]
    if len(found) < 2:
        return found
    measures = order_keys([ground.measure(place - point) for place in found])
    across, upward = order_keys([place.x for place in found]), order_keys([place.y for place in found])
    return [found[at] for at in ranked(list(zip(measures, across, upward)))]


def differences(one, other):
    """The layer of all differences of a place of the layer other and one of the layer one."""
    return other - one


def short_steps(ground, layer):
    """Some points of a layer that are not (0, 0), all shortest ones among them."""
    if Point(0, 0) not in layer:
        return corners(ground, layer, Point(0, 0))
    u, v = least_pair(ground, layer.lattice)
    return steps_around(u, v)


def gap(ground, ones, others):
    """The least measure above 0 between places of two lists of layers, and all differences that have it."""
    found = []
    for one in ones:
        for other in others:
            found = found + short_steps(ground, differences(one, other))
    return shortest(ground, found)


def least_shifts(ground, one, other):
    """All shortest points by which the layer one can be moved to have a place in common with the layer other."""
    return nearest(ground, differences(one, other), Point(0, 0))
