"""Holes: the points that are farthest from a lattice, and shifts that keep layers as far apart as can be."""

from overfloors.bases import least_pair, shape_by
from overfloors.layers import Layer
from overfloors.near import differences
from overfloors.points import ranked_points


def ordered(layers):
    """The layers ordered by their points, each once."""
    found = []
    for index in ranked_points([layer.point for layer in layers]):
        if layers[index] not in found:
            found.append(layers[index])
    return found


def holes(ground, lattice):
    """The greatest measure from a point to a lattice, and the layers of the points that have it."""
    u, v = least_pair(ground, lattice)
    p, q, r = shape_by(ground, u, v)
    part = 4 * p * r - q * q
    # The point that has the same measure to (0, 0), u and v.
    middle = u * (r * (2 * p - q)).over(part) + v * (p * (2 * r - q)).over(part)
    return (p * r * (p + r - q)).over(part), ordered([Layer(middle, lattice), Layer(-middle, lattice)])


def clearance(ground, one, other):
    """How far the layer one can be kept from the layer other by a shift, and the layers of the shifts that do so."""
    steps = differences(one, other)
    measure, layers = holes(ground, steps.lattice)
    return measure, ordered([layer.shifted(steps.point) for layer in layers])
