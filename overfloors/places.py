"""Sets of places: what layers hold together, in common, or one without another one.

A pattern of layers is told by an integer, its mask: the bits of the indexes of its layers. A set has
a table, which tells for each mask whether the points of this pattern belong to the set.
"""

from math import gcd, lcm

from overfloors.covers import first_uncovered
from overfloors.errors import TooMany
from overfloors.many import choices, common_cells, gather, mask_of
from overfloors.ratios import Ratio

MOST = 6


def joined(layers, others):
    """The layers of both lists, each once, in the order in which they come first."""
    found = []
    for layer in [*layers, *others]:
        if layer not in found:
            found.append(layer)
    return found


def bit_of(layer, layers):
    """The bit of a layer in the masks of some layers, 0 if it is none of them."""
    for index, one in enumerate(layers):
        if one == layer:
            return 1 << index
    return 0


def table_over(places, layers):
    """The table of a set, told for the masks of other layers, all of its own ones among them."""
    masks = [0]
    for layer in layers:
        bit = bit_of(layer, places.layers)
        masks = masks + [mask | bit for mask in masks]
    return [places.table[mask] for mask in masks]


def without_bit(table, index):
    """The items of the masks without a bit, in their order."""
    bit = 1 << index
    return [item for mask, item in enumerate(table) if mask & bit == 0]


def plays_part(table, index):
    """True if a layer makes a difference to whether some pattern belongs."""
    bit = 1 << index
    return any([item != table[mask | bit] for mask, item in enumerate(table) if mask & bit == 0])


def needed(layers, table):
    """The layers that play a part, and the table over them alone."""
    left = list(layers)
    rest = list(table)
    for index in range(len(layers) - 1, -1, -1):
        if not plays_part(rest, index):
            left = left[:index] + left[index + 1:]
            rest = without_bit(rest, index)
    return left, rest


def places_by(layers, table):
    """The set with a table over some layers, without the layers that play no part."""
    left, rest = needed(layers, table)
    if len(left) > MOST:
        raise TooMany(MOST)
    found = Places()
    found.layers = tuple(left)
    found.table = tuple(rest)
    return found


def alone(amounts):
    """For each mask the amount of its points that no more layers hold, from the amounts of all its points."""
    left = list(amounts)
    bit = 1
    while bit < len(left):
        for mask in range(len(left)):
            if mask & bit == 0:
                left[mask] = left[mask] - left[mask | bit]
        bit = bit * 2
    return left


def weights_of(layers):
    """An integer for each mask, how thick the points of just this pattern lie, and the unit of these integers."""
    cells = common_cells(layers)
    told = [cell for cell in cells[1:] if cell is not None]
    top, bottom = 1, 0
    for cell in told:
        top, bottom = lcm(top, cell.top), gcd(bottom, cell.bottom)
    weights = [0] + [0 if cell is None else top // cell.top * (cell.bottom // bottom) for cell in cells[1:]]
    return alone(weights), Ratio(bottom, top)


def has_points(layers, table):
    """True if some pattern that belongs to a set has a point."""
    left, rest = needed(layers, table)
    weights, _ = weights_of(left)
    return any([weight > 0 and belongs for weight, belongs in zip(weights, rest)])


def signs_of(table):
    """An integer for each mask: a point belongs if those of all masks that hold it add up to 1, otherwise to 0."""
    signs = [1 if belongs else 0 for belongs in table]
    bit = 1
    while bit < len(signs):
        for mask in range(len(signs)):
            if mask & bit:
                signs[mask] = signs[mask] - signs[mask ^ bit]
        bit = bit * 2
    return signs


def common_layers(layers):
    """What the layers of each mask have in common, None for nothing and for the mask 0."""
    found = [None]
    for layer in layers:
        more = [layer]
        for common in found[1:]:
            more.append(None if common is None else common & layer)
        found = found + more
    return found


def terms_of(places):
    """The terms of a set: those masks whose signs are not 0 when patterns without points play no part."""
    present = places.present
    signs = signs_of([mask in present for mask in range(len(places.table))])
    layers = common_layers(places.layers)
    masks = [mask for mask in range(1, len(signs)) if signs[mask] != 0 and layers[mask] is not None]
    return [(mask, signs[mask], layers[mask]) for mask in masks]


class Places:
    """The points that are in one of some layers, or what operators make of such sets."""

    def __init__(self, layers=()):
        different = joined(layers, [])
        if len(different) > MOST:
            raise TooMany(MOST)
        self.layers = tuple(different)
        self.table = tuple([mask > 0 for mask in range(1 << len(different))])
        self._weights = None
        self._terms = None

    @property
    def weights(self):
        """How thick the points of each pattern lie, by integers, and their unit."""
        if self._weights is None:
            self._weights = weights_of(self.layers)
        return self._weights

    @property
    def present(self):
        """The masks of the patterns that belong to the set and have points."""
        weights, _ = self.weights
        return [mask for mask, belongs in enumerate(self.table) if belongs and weights[mask] > 0]

    @property
    def terms(self):
        """Triples (mask, sign, layer): the signs of the layers that hold a point tell whether it belongs."""
        if self._terms is None:
            self._terms = terms_of(self)
        return self._terms

    def thick(self):
        """The number of points on each unit of area."""
        weights, unit = self.weights
        return unit * sum([weights[mask] for mask in self.present])

    def patterns(self):
        """Pairs of the indexes of layers that hold a point and the thickness of such points, fewer layers first."""
        many = len(self.layers)
        present = self.present
        weights, unit = self.weights
        found = [numbers for size in range(1, many + 1) for numbers in choices(many, size)]
        masks = {tuple(numbers): mask_of(numbers) for numbers in found}
        return [(numbers, unit * weights[masks[numbers]]) for numbers in masks if masks[numbers] in present]

    def witness(self):
        """A point of the set, or None."""
        present = self.present
        if len(present) == 0:
            return None
        inner = [layer for index, layer in enumerate(self.layers) if present[0] >> index & 1]
        outer = [layer for index, layer in enumerate(self.layers) if not present[0] >> index & 1]
        return first_uncovered(outer, gather(inner))

    def inside(self, other):
        """True if all points are in the other set."""
        point = self.witness()
        # Any one point tells most sets apart, which a look at all patterns would do far later.
        if point is None or point not in other:
            return point is None
        layers = joined(self.layers, other.layers)
        first, second = table_over(self, layers), table_over(other, layers)
        return not has_points(layers, [one and not another for one, another in zip(first, second)])

    def shifted(self, point):
        """The set of the points moved by a point."""
        return places_by([layer.shifted(point) for layer in self.layers], self.table)

    def moved(self, motion):
        """The set of the images of the points."""
        return places_by([layer.moved(motion) for layer in self.layers], self.table)

    def __contains__(self, point):
        return self.table[mask_of([index for index, layer in enumerate(self.layers) if point in layer])]

    def __bool__(self):
        return bool(len(self.present) > 0)

    def __eq__(self, other):
        if not isinstance(other, Places) or self.thick() != other.thick():
            return False
        layers = joined(self.layers, other.layers)
        first, second = table_over(self, layers), table_over(other, layers)
        return not has_points(layers, [one != another for one, another in zip(first, second)])

    def __or__(self, other):
        if not isinstance(other, Places):
            return NotImplemented
        layers = joined(self.layers, other.layers)
        first, second = table_over(self, layers), table_over(other, layers)
        return places_by(layers, [one or another for one, another in zip(first, second)])

    def __and__(self, other):
        if not isinstance(other, Places):
            return NotImplemented
        layers = joined(self.layers, other.layers)
        first, second = table_over(self, layers), table_over(other, layers)
        return places_by(layers, [one and another for one, another in zip(first, second)])

    def __sub__(self, other):
        if not isinstance(other, Places):
            return NotImplemented
        layers = joined(self.layers, other.layers)
        first, second = table_over(self, layers), table_over(other, layers)
        return places_by(layers, [one and not another for one, another in zip(first, second)])

    def __xor__(self, other):
        if not isinstance(other, Places):
            return NotImplemented
        layers = joined(self.layers, other.layers)
        first, second = table_over(self, layers), table_over(other, layers)
        return places_by(layers, [one != another for one, another in zip(first, second)])
