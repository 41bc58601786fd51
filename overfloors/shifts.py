"""Shifts: how a floor is to be moved to bring the most marks together with those of another one."""

from overfloors.errors import TooMany
from overfloors.places import Places, places_by
from overfloors.ratios import Ratio

MOST = 6


def worth_of(layer, beside, weight):
    """The worth that two layers add at each shift at which they meet."""
    joint = layer.lattice + beside.lattice
    return (joint.cell * weight).over(layer.lattice.cell * beside.lattice.cell)


def shifts_of(one, other, weights):
    """The different layers of shifts at which layers of two floors meet, and the worth of each of them."""
    layers, worths = [], []
    for letter, layer in one.laid:
        for another, beside in other.laid:
            weight = weights.get((letter, another), 0)
            if weight == 0:
                continue
            shifts = layer - beside
            if shifts not in layers:
                layers.append(shifts)
                worths.append(Ratio(0))
            index = layers.index(shifts)
            worths[index] = worths[index] + worth_of(layer, beside, weight)
    return layers, worths


def best_shifts(one, other, weights):
    """The greatest worth of a shift, and the set of the shifts that have it, None if almost all of them do."""
    layers, worths = shifts_of(one, other, weights)
    if len(layers) > MOST:
        raise TooMany(MOST)
    sums = [Ratio(0)]
    for worth in worths:
        sums = sums + [found + worth for found in sums]
    best = Ratio(0)
    for mask in Places(layers).present:
        if sums[mask] > best:
            best = sums[mask]
    if not best:
        return best, None
    return best, places_by(layers, [found == best for found in sums])
