"""Holes: the points that are farthest from a lattice, and shifts that keep layers as far apart as can be."""

from overfloors.bases import least_rows, row_point
from overfloors.layers import Layer
from overfloors.near import differences
from overfloors.points import ranked_points
from overfloors.ratios import Ratio


def ordered(layers):
    """The layers ordered by their points, each once."""
    found = []
    for index in ranked_points([layer.point for layer in layers]):
        if layers[index] not in found:
            found.append(layers[index])
    return found


def holes(ground, lattice):
    """The greatest measure from a point to a lattice, and the layers of the points that have it."""
    times, u, v, (p, q, r) = least_rows(ground, lattice)
    part = 4 * p * r - q * q
    # The point that has the same measure to (0, 0), u and v.
    first, second = r * (2 * p - q), p * (2 * r - q)
    middle = row_point((u[0] * first + v[0] * second, u[1] * first + v[1] * second), times * part)
    measure = Ratio(p * r * (p + r - q), part * times * times)
    return measure, ordered([Layer(middle, lattice), Layer(-middle, lattice)])


def clearance(ground, one, other):
    """How far the layer one can be kept from the layer other by a shift, and the layers of the shifts that do so."""
    steps = differences(one, other)
    measure, layers = holes(ground, steps.lattice)
    return measure, ordered([layer.shifted(steps.point) for layer in layers])
