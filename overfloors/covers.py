"""Covers: whether layers hold all points of a layer, which a small window of its points shows."""

from math import gcd, lcm

from overfloors.errors import BadNumber, TooMany
from overfloors.layers import common_grid
from overfloors.meshes import aligned, mesh_of
from overfloors.points import Point
from overfloors.ratios import Ratio, is_int

MOST = 6


def stepped(one, other):
    """The grid of what two grids have in common, told by the steps (i, j) of the first one, or None."""
    found = common_grid(one, other)
    if found is None:
        return None
    x, y, a, b, d = one
    left, low, width, lean, height = found
    i, across = (left - x) // a, width // a
    return i, (low - y - i * b) // d, across, (lean - across * b) // d, height // d


def steps_held(layers, mesh):
    """The grids, told by the steps of a mesh, of what each layer of a list has in common with it, if anything."""
    found = []
    for layer in layers:
        _, _, one, other = aligned(mesh, mesh_of(layer))
        grid = stepped(one, other)
        if grid is not None:
            found.append(grid)
    return found


def multiples_below(step, reach):
    """The integer whose bits are the multiples of a step from 0 on, all those below the reach among them."""
    if step >= reach:
        return 1
    many = -(-reach // step)
    return ((1 << (step * many)) - 1) // ((1 << step) - 1)


def first_step(grids):
    """The first (i, j), both from 0 on, that none of some grids holds, or None."""
    reach = 1 << len(grids)
    # From here on the columns are the same again.
    again = 1
    for _, _, a, b, d in grids:
        again = lcm(again, a * (d // gcd(b, d)))
    multiples = [multiples_below(grid[4], reach) for grid in grids]
    for i in range(min(reach, int(again))):
        left = (1 << reach) - 1
        for (x, y, a, b, d), bits in zip(grids, multiples):
            start = (y + (i - x) // a * b) % d
            if (i - x) % a == 0 and start < reach:
                left = left & ~(bits << start)
        if left > 0:
            return i, (left & -left).bit_length() - 1
    return None


def first_uncovered(layers, layer):
    """The first point c + i u + j v of the window of a layer that no layer of a list holds, or None."""
    mesh = mesh_of(layer)
    found = first_step(steps_held(layers, mesh))
    if found is None:
        return None
    i, j = found
    across, upward, (x, y, a, b, d) = mesh
    return Point(Ratio(x + i * a, across), Ratio(y + i * b + j * d, upward))


def uncovered(layers, layer):
    """A point of the layer that is in none of the layers of a list, or None."""
    if len(layers) > MOST:
        raise TooMany(MOST)
    return first_uncovered(layers, layer)


def covers(layers, layer):
    """True if each point of the layer is in one of the layers of a list."""
    return uncovered(layers, layer) is None


def window_points(layer, many):
    """The points of a layer that show whether so many layers cover it."""
    if not is_int(many) or many < 0 or many > MOST:
        raise BadNumber(many)
    across, upward, (x, y, a, b, d) = mesh_of(layer)
    found = []
    for i in range(1 << many):
        column = Ratio(x + i * a, across)
        found.extend([Point(column, Ratio(y + i * b + j * d, upward)) for j in range(1 << many)])
    return found
