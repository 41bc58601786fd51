"""Sets of places: what layers hold together, in common, or one without another one.

A pattern of layers is told by an integer, its mask: the bits of the indexes of its layers. A set has
a table, which tells for each mask whether the points of this pattern belong to the set.
"""

from math import gcd, lcm

from overfloors.covers import first_uncovered
from overfloors.errors import TooMany
from overfloors.many import choices, gather, mask_of
from overfloors.meshes import common_cells, drops_of, meshes_of
from overfloors.ratios import Ratio

MOST = 6


def different(layers):
    """The layers, each once, in the order in which they come first."""
    found = []
    for layer in layers:
        if layer not in found:
            found.append(layer)
    return found


def place_of(layer, layers):
    """The index of a layer in a list, behind the last one if it is not there."""
    for index, one in enumerate(layers):
        if one == layer:
            return index
    return len(layers)


def joined(layers, others):
    """The layers of two sets, those of the first one first, and the indexes of those of the second one there."""
    found = list(layers)
    places = []
    for layer in others:
        index = place_of(layer, found)
        if index == len(found):
            found.append(layer)
        places.append(index)
    return found, places


def masks_over(many, places):
    """For each mask of so many layers the mask of those of them that stand at some places, told by the places."""
    bits = [0 for _ in range(many)]
    for index, place in enumerate(places):
        bits[place] = 1 << index
    masks = [0]
    for bit in bits:
        masks = masks + [mask | bit for mask in masks]
    return masks


def together(one, other):
    """The layers of two sets, those of the first one first, and the tables of both sets over all of them."""
    layers, places = joined(one.layers, other.layers)
    first = list(one.table) * (1 << (len(layers) - len(one.layers)))
    return layers, first, [other.table[mask] for mask in masks_over(len(layers), places)]


def needed(layers, table):
    """The layers that play a part, and the table over them alone."""
    left = []
    rest = list(table)
    for layer in layers:
        # The masks without the lowest bit and those with it; a bit that is kept is made the highest one.
        lacking, holding = rest[::2], rest[1::2]
        if lacking == holding:
            rest = lacking
        else:
            left.append(layer)
            rest = lacking + holding
    return left, rest


def places_by(layers, table):
    """The set with a table over some layers, without the layers that play no part."""
    left, rest = needed(layers, table)
    if len(left) > MOST:
        raise TooMany(MOST)
    found = Places()
    found.layers = tuple(left)
    found.table = tuple(rest)
    return found


def alone(amounts):
    """For each mask the amount of its points that no more layers hold, from the amounts of all its points."""
    left = list(amounts)
    for _ in range(len(left).bit_length() - 1):
        # Takes what has the lowest bit from what lacks it, and makes this bit the highest one.
        left = [one - other for one, other in zip(left[::2], left[1::2])] + left[1::2]
    return left


def signs_of(table):
    """An integer for each mask: a point belongs if those of all masks that hold it add up to 1, otherwise to 0."""
    signs = [1 if belongs else 0 for belongs in table]
    for _ in range(len(signs).bit_length() - 1):
        # Takes what lacks the lowest bit from what has it, and makes this bit the highest one.
        signs = signs[::2] + [other - one for one, other in zip(signs[::2], signs[1::2])]
    return signs


def unit_of(cells):
    """Two integers: the thickness of each of some cells is a multiple of the second one over the first one."""
    top, bottom = 1, 0
    for one, other in cells:
        top, bottom = lcm(top, one), gcd(bottom, other)
    return top, bottom


def weights_of(layers):
    """An integer for each mask, how thick the points of just this pattern lie, and the unit of these integers.

    The third result tells for each mask the least one of the same common part, 0 if there is no common point.
    """
    if len(layers) == 1:
        return [0, 1], layers[0].thickness, [0, 1]
    cells, wider = common_cells(meshes_of(layers))
    top, bottom = unit_of([cells[mask] for mask in cells])
    amounts = {mask: top // cells[mask][0] * (cells[mask][1] // bottom) for mask in cells}
    masks = [mask & ~drop for mask, drop in enumerate(drops_of(wider))]
    weights = alone([amounts.get(mask, 0) for mask in masks])
    return weights, Ratio(bottom, top), [mask if mask in cells else 0 for mask in masks]


def signed_masks(places):
    """Pairs of the masks whose layers have a common point and their signs, if patterns without points play no part.

    Signs that are 0 are left out, and signs of the same common part are added up.
    """
    weights, _, masks = places.weights
    signs = signs_of([belongs and weight > 0 for belongs, weight in zip(places.table, weights)])
    found = {}
    for mask, sign in zip(masks, signs):
        if mask > 0 and sign != 0:
            found[mask] = found.get(mask, 0) + sign
    return [(mask, found[mask]) for mask in found if found[mask] != 0]


def common_layer(layers, mask):
    """What the layers of a mask have in common, where they have a common point."""
    chosen = [layer for index, layer in enumerate(layers) if mask >> index & 1]
    found = chosen[0]
    for layer in chosen[1:]:
        found = found & layer
    return found


def terms_of(places):
    """The terms of a set: its signed masks, with what their layers have in common."""
    found = {}
    for mask, _ in places.signed:
        rest = mask & (mask - 1)
        layer = places.layers[(mask ^ rest).bit_length() - 1]
        if rest > 0:
            layer = layer & (found[rest] if rest in found else common_layer(places.layers, rest))
        found[mask] = layer
    return [(mask, sign, found[mask]) for mask, sign in places.signed]


def side_by_side(one, other):
    """For each pattern of all layers of two sets that has points, whether it belongs to the one and to the other.

    None is told if each set has layers that the other one lacks.
    """
    layers, places = joined(one.layers, other.layers)
    if len(layers) > len(one.layers) and len(layers) > len(other.layers):
        return None
    masks = masks_over(len(layers), places)
    weights = one.weights[0]
    if len(layers) > len(one.layers):
        weights = [other.weights[0][mask] for mask in masks]
    first = list(one.table) * (1 << (len(layers) - len(one.layers)))
    return [(held, other.table[mask]) for weight, held, mask in zip(weights, first, masks) if weight > 0]


def marked(places, bits, wider):
    """Triples of the signed masks of a set, by other bits of its layers, the bits of wider layers, and the signs."""
    found = []
    for mask, sign in places.signed:
        chosen = [bit for index, bit in enumerate(bits) if mask >> index & 1]
        drop = 0
        for bit in chosen:
            drop = drop | wider[bit.bit_length() - 1]
        found.append((sum(chosen), drop, sign))
    return found


def shared(one, other):
    """How thick the points lie that two sets have in common."""
    layers, places = joined(one.layers, other.layers)
    cells, wider = common_cells(meshes_of(layers))
    seconds = marked(other, [1 << place for place in places], wider)
    many = {}
    for mask, drop, sign in marked(one, [1 << index for index in range(len(one.layers))], wider):
        for beside, more, factor in seconds:
            both = (mask | beside) & ~(drop | more)
            if both in cells:
                many[both] = many.get(both, 0) + sign * factor
    top, bottom = unit_of([cells[mask] for mask in many])
    amounts = [many[mask] * (top // cells[mask][0] * (cells[mask][1] // bottom)) for mask in many]
    return Ratio(sum(amounts) * bottom, top)


class Places:
    """The points that are in one of some layers, or what operators make of such sets."""

    def __init__(self, layers=()):
        found = different(layers)
        if len(found) > MOST:
            raise TooMany(MOST)
        self.layers = tuple(found)
        self.table = tuple([mask > 0 for mask in range(1 << len(found))])
        self._weights = None
        self._signed = None
        self._terms = None

    @property
    def weights(self):
        """What weights_of tells: how thick the points of each pattern lie, by integers, their unit, and masks."""
        if self._weights is None:
            self._weights = weights_of(self.layers)
        return self._weights

    @property
    def present(self):
        """The masks of the patterns that belong to the set and have points."""
        weights, _, _ = self.weights
        return [mask for mask, belongs in enumerate(self.table) if belongs and weights[mask] > 0]

    @property
    def signed(self):
        """Pairs of masks and signs: those of the masks whose layers hold a point tell whether it belongs."""
        if self._signed is None:
            self._signed = signed_masks(self)
        return self._signed

    @property
    def terms(self):
        """Triples (mask, sign, layer): the signs of the layers that hold a point tell whether it belongs."""
        if self._terms is None:
            self._terms = terms_of(self)
        return self._terms

    def thick(self):
        """The number of points on each unit of area."""
        weights, unit, _ = self.weights
        return unit * sum([weights[mask] for mask in self.present])

    def patterns(self):
        """Pairs of the indexes of layers that hold a point and the thickness of such points, fewer layers first."""
        many = len(self.layers)
        present = self.present
        weights, unit, _ = self.weights
        found = [numbers for size in range(1, many + 1) for numbers in choices(many, size)]
        masks = {tuple(numbers): mask_of(numbers) for numbers in found}
        return [(numbers, unit * weights[masks[numbers]]) for numbers in masks if masks[numbers] in present]

    def witness(self):
        """A point of the set, or None."""
        present = self.present
        if len(present) == 0:
            return None
        inner = [layer for index, layer in enumerate(self.layers) if present[0] >> index & 1]
        outer = [layer for index, layer in enumerate(self.layers) if not present[0] >> index & 1]
        return first_uncovered(outer, gather(inner))

    def inside(self, other):
        """True if all points are in the other set."""
        point = self.witness()
        # Any one point tells most sets apart, which a look at all patterns would do far later.
        if point is None or point not in other:
            return point is None
        patterns = side_by_side(self, other)
        if patterns is not None:
            return not any([first and not second for first, second in patterns])
        return shared(self, other) == self.thick()

    def shifted(self, point):
        """The set of the points moved by a point."""
        return places_by([layer.shifted(point) for layer in self.layers], self.table)

    def moved(self, motion):
        """The set of the images of the points."""
        return places_by([layer.moved(motion) for layer in self.layers], self.table)

    def __contains__(self, point):
        return self.table[mask_of([index for index, layer in enumerate(self.layers) if point in layer])]

    def __bool__(self):
        return bool(len(self.present) > 0)

    def __eq__(self, other):
        if not isinstance(other, Places):
            return False
        patterns = side_by_side(self, other)
        if patterns is not None:
            return not any([first != second for first, second in patterns])
        thick = self.thick()
        return thick == other.thick() and shared(self, other) == thick

    def __or__(self, other):
        if not isinstance(other, Places):
            return NotImplemented
        layers, first, second = together(self, other)
        return places_by(layers, [one or another for one, another in zip(first, second)])

    def __and__(self, other):
        if not isinstance(other, Places):
            return NotImplemented
        layers, first, second = together(self, other)
        return places_by(layers, [one and another for one, another in zip(first, second)])

    def __sub__(self, other):
        if not isinstance(other, Places):
            return NotImplemented
        layers, first, second = together(self, other)
        return places_by(layers, [one and not another for one, another in zip(first, second)])

    def __xor__(self, other):
        if not isinstance(other, Places):
            return NotImplemented
        layers, first, second = together(self, other)
        return places_by(layers, [one != another for one, another in zip(first, second)])
