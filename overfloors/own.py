"""Own motions of tiles: those that keep lengths and carry a tile to itself."""

from overfloors.keys import frames_of, in_both, moves
from overfloors.lattices import Lattice
from overfloors.layers import Layer
from overfloors.motions import STILL, Motion, undone
from overfloors.points import carried, ranked_points
from overfloors.tiles import key_of


def own_moves(ground, tile):
    """The tables and shifts of the own motions of a tile, one for each table."""
    frames = frames_of(ground, tile, True)
    return moves(frames, frames, frames.ends)


def own_motions(ground, tile):
    """The own motions of a tile, one for each table, with shifts in the oblong of the own lattice."""
    return [Motion(table, tile.lattice.rest(shift)) for table, shift in own_moves(ground, tile)]


def kept_layer(lattice, motion):
    """The layer of all points that a turn keeps, up to members of a lattice that it carries to itself."""
    (a, b), (c, d) = motion.table
    back = undone(((1 - a, -b), (-c, 1 - d)))
    return Layer(carried(motion.shift, back), Lattice([carried(row, back) for row in lattice.rows()]))


def rests_in(layer, lattice):
    """The points of a layer in the oblong of a lattice that lies within that of the layer."""
    first, second = layer.lattice.rows()
    across = lattice.a.over(layer.lattice.a).top
    upward = lattice.d.over(layer.lattice.d).top
    return [lattice.rest(layer.point + first * i + second * j) for i in range(across) for j in range(upward)]


def centres(ground, tile):
    """The centres in the oblong of the own lattice with their orders, ordered by x, then by y."""
    points, orders = {}, {}
    for motion in own_motions(ground, tile):
        if motion.factor() > 0 and motion.table != STILL:
            for point in rests_in(kept_layer(tile.lattice, motion), tile.lattice):
                key = key_of(point)
                points[key] = point
                orders[key] = orders.get(key, 1) + 1
    found = [(points[key], orders[key]) for key in points]
    return [found[at] for at in ranked_points([point for point, _ in found])]


def common_motions(ground, one, other):
    """The own motions of both tiles, those counted once that differ by a step of both own lattices."""
    return in_both(own_moves(ground, one), one.lattice, own_moves(ground, other), other.lattice)
