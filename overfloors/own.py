"""Own motions of tiles: those that keep lengths and carry a tile to itself."""

from overfloors.keys import Frames, in_both, motions_between
from overfloors.lattices import Lattice
from overfloors.layers import Layer
from overfloors.motions import STILL, Motion, undone
from overfloors.order import ranked
from overfloors.points import carried


def own_motions(ground, tile):
    """The own motions of a tile, one for each table, with shifts in the oblong of the own lattice."""
    frames = Frames(ground, tile, True)
    found = motions_between(frames, frames, False)
    return [Motion(motion.table, tile.lattice.rest(motion.shift)) for motion in found]


def kept_layer(lattice, motion):
    """The layer of all points that a turn keeps, up to members of a lattice that it carries to itself."""
    (a, b), (c, d) = motion.table
    back = undone(((1 - a, -b), (-c, 1 - d)))
    return Layer(carried(motion.shift, back), Lattice([carried(row, back) for row in lattice.rows()]))


def rests_in(layer, lattice):
    """The points of a layer in the oblong of a lattice that lies within that of the layer."""
    first, second = layer.lattice.rows()
    across = lattice.a.over(layer.lattice.a).top
    upward = lattice.d.over(layer.lattice.d).top
    return [lattice.rest(layer.point + first * i + second * j) for i in range(across) for j in range(upward)]


def centres(ground, tile):
    """The centres in the oblong of the own lattice with their orders, ordered by x, then by y."""
    turns = [motion for motion in own_motions(ground, tile) if motion.factor() > 0 and motion.table != STILL]
    layers = [kept_layer(tile.lattice, motion) for motion in turns]
    found = []
    for layer in layers:
        for point in rests_in(layer, tile.lattice):
            if point not in found:
                found.append(point)
    order = ranked([(point.x, point.y) for point in found])
    return [(found[at], 1 + len([one for one in layers if found[at] in one])) for at in order]


def common_motions(ground, one, other):
    """The own motions of both tiles, those counted once that differ by a step of both own lattices."""
    return in_both(own_motions(ground, one), one.lattice, own_motions(ground, other), other.lattice)
