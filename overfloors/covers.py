"""Covers: whether layers hold all points of a layer, which a small window of its points shows."""

from overfloors.errors import BadNumber, TooMany
from overfloors.lattices import common_bottom
from overfloors.layers import scaled
from overfloors.ratios import is_int

MOST = 6


def whole_places(figures):
    """Three integers and their bottom (x, i, j, bottom): where x + i m + j n is a multiple of it, a step is whole.

    The figures are the same step of a point and of two rows, as Ratios.
    """
    bottom = common_bottom(figures)
    x, i, j = [scaled(figure, bottom) % bottom for figure in figures]
    return x, i, j, bottom


def tests_of(layer, points):
    """What tells whether c + i u + j v is in a layer, for the points c, u and v."""
    start, first, second = points
    steps = [layer.lattice.steps(point) for point in (start - layer.point, first, second)]
    return [whole_places([step[side] for step in steps]) for side in (0, 1)]


def passes(tests, i, j):
    """True if all tests tell that the point of i and j is in their layer."""
    for x, first, second, bottom in tests:
        if (x + i * first + j * second) % bottom != 0:
            return False
    return True


def first_uncovered(layers, layer):
    """The first point c + i u + j v of the window of a layer that no layer of a list holds, or None."""
    points = (layer.point, *layer.lattice.rows())
    tests = [tests_of(one, points) for one in layers]
    reach = 1 << len(layers)
    for i in range(reach):
        for j in range(reach):
            if not any([passes(test, i, j) for test in tests]):
                return points[0] + points[1] * i + points[2] * j
    return None


def uncovered(layers, layer):
    """A point of the layer that is in none of the layers of a list, or None."""
    if len(layers) > MOST:
        raise TooMany(MOST)
    return first_uncovered(layers, layer)


def covers(layers, layer):
    """True if each point of the layer is in one of the layers of a list."""
    return uncovered(layers, layer) is None


def window_points(layer, many):
    """The points of a layer that show whether so many layers cover it."""
    if not is_int(many) or many < 0 or many > MOST:
        raise BadNumber(many)
    first, second = layer.lattice.rows()
    reach = 1 << many
    return [layer.point + first * i + second * j for i in range(reach) for j in range(reach)]
