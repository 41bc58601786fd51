"""Meshes: what many layers have in common, told by integers.

A mesh is a triple (across, upward, grid): the grid of a layer when its points are taken so many times
in both directions. A choice of layers is told by its mask, the integer of the bits of their indexes.
Cells are told as pairs of a top and a bottom.
"""

from math import gcd, lcm

from overfloors.layers import common_grid, grid_of, joint_cell

SHORT = 64


def mesh_of(layer):
    """The mesh of a layer at its own scale."""
    table, point = layer.lattice.table, layer.point
    across, upward = lcm(table.across, point.x.bottom), lcm(table.upward, point.y.bottom)
    return across, upward, grid_of(layer, across, upward)


def rescaled(mesh, across, upward):
    """The grid of a mesh at other scales, multiples of its own ones."""
    if mesh[0] == across and mesh[1] == upward:
        return mesh[2]
    wide, high = across // mesh[0], upward // mesh[1]
    x, y, a, b, d = mesh[2]
    return x * wide, y * high, a * wide, b * high, d * high


def meshes_of(layers):
    """The meshes of layers, at one scale for all unless this would make their integers far longer."""
    found = [mesh_of(layer) for layer in layers]
    across, upward, longest = 1, 1, 0
    for wide, high, _ in found:
        across, upward = lcm(across, wide), lcm(upward, high)
        longest = max(longest, int((wide * high).bit_length()))
    if (across * upward).bit_length() > 2 * longest + SHORT:
        return found
    return [(across, upward, rescaled(mesh, across, upward)) for mesh in found]


def aligned(one, other):
    """The scales that serve two meshes, and the grids of both at these scales."""
    if one[0] == other[0] and one[1] == other[1]:
        return one[0], one[1], one[2], other[2]
    across, upward = lcm(one[0], other[0]), lcm(one[1], other[1])
    return across, upward, rescaled(one, across, upward), rescaled(other, across, upward)


def least_pair(top, bottom):
    """A pair of integers without their common divisor."""
    common = gcd(top, bottom)
    return top // common, bottom // common


def own_cells(meshes):
    """The cells of meshes, by their bits."""
    found = {}
    for index, (across, upward, grid) in enumerate(meshes):
        found[1 << index] = least_pair(grid[2] * grid[4], across * upward)
    return found


def pair_cell(one, other):
    """The cell of what two meshes have in common, None if they do not meet."""
    across, upward, grid, beside = aligned(one, other)
    joint = joint_cell(grid, beside)
    if joint is None:
        return None
    # The cells of the common part and of the sum have the product of both cells.
    return least_pair(grid[2] * grid[4] * beside[2] * beside[4] // joint, across * upward)


def pair_cells(meshes):
    """A dict from the masks of the twos of meshes that meet to the cell of what they have in common."""
    found = {}
    for second, other in enumerate(meshes):
        for first, one in enumerate(meshes[:second]):
            cell = pair_cell(one, other)
            if cell is not None:
                found[1 << first | 1 << second] = cell
    return found


def wider_bits(cells, pairs):
    """For each mesh the bits of those that hold all its points, as the cells of all meshes and of their pairs tell."""
    found = {bit: 0 for bit in cells}
    for two in pairs:
        low = two & -two
        if pairs[two] == cells[low]:
            found[low] = found[low] | two ^ low
        elif pairs[two] == cells[two ^ low]:
            found[two ^ low] = found[two ^ low] | low
    return [found[bit] for bit in found]


def bits_of(mask):
    """The bits of a mask, the least one first."""
    return [1 << index for index in range(mask.bit_length()) if mask >> index & 1]


def barred_threes(meshes, pairs):
    """The masks of the threes of meshes of which each two meet, but not all three, as the pair cells tell."""
    partners = {1 << index: 0 for index in range(len(meshes))}
    for two in pairs:
        low = two & -two
        partners[low] = partners[low] | two ^ low
        partners[two ^ low] = partners[two ^ low] | low
    found = []
    for two in pairs:
        low = two & -two
        thirds = partners[low] & partners[two ^ low] & -(two ^ low)
        if thirds == 0:
            continue
        across, upward, grid, beside = aligned(meshes[low.bit_length() - 1], meshes[two.bit_length() - 1])
        common = (across, upward, common_grid(grid, beside))
        for bit in bits_of(thirds):
            _, _, grid, beside = aligned(common, meshes[bit.bit_length() - 1])
            if joint_cell(grid, beside) is None:
                found.append(two | bit)
    return found


def barred_bits(threes):
    """A dict from the mask of each two of some threes to the bits of the thirds."""
    found = {}
    for mask in threes:
        low = mask & -mask
        high = 1 << (mask.bit_length() - 1)
        for bit in (low, high, mask ^ low ^ high):
            found[mask ^ bit] = found.get(mask ^ bit, 0) | bit
    return found


def drops_of(wider):
    """For each mask the bits of the meshes that hold all points of another one of the mask."""
    drops = [0]
    for bits in wider:
        drops = drops + [drop | bits for drop in drops]
    return drops


def common_cells(meshes):
    """The cells of what meshes have in common, and for each mesh the bits of those that hold all its points.

    The cells are told by a dict from masks, ascending, of meshes that have a common point. Masks with
    a mesh that holds all points of another one are left out.
    Meshes have a common point if each three of them have one. The dual of a common part is the sum
    of the duals, and its cell is told by areas of two points, each of one dual. So the cell of a
    common part is the least common multiple of those of all twos.
    """
    own, pairs = own_cells(meshes), pair_cells(meshes)
    wider = wider_bits(own, pairs)
    pairs = {two: pairs[two] for two in pairs if pairs[two] not in (own[two & -two], own[two & (two - 1)])}
    barred = barred_bits(barred_threes(meshes, pairs))
    cells = {}
    for bit in own:
        more = {bit: own[bit]}
        for mask in cells:
            low = mask & -mask
            two, rest = low | bit, mask ^ low | bit
            if rest in more and two in pairs and barred.get(two, 0) & mask == 0:
                one, other, last = cells[mask], more[rest], pairs[two]
                more[mask | bit] = lcm(one[0], other[0], last[0]), gcd(one[1], other[1], last[1])
        for mask in more:
            cells[mask] = more[mask]
    return cells, wider
