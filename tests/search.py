"""Searches through places, by Python's fractions, to which answers are compared."""

import math
from fractions import Fraction

from overfloors.layers import Layer
from overfloors.motions import Motion
from overfloors.points import Point
from overfloors.ratios import Ratio
from drawn import fraction, pair


def measure_of(ground, x, y):
    """The form of a ground itself."""
    return ground.a * x * x + ground.b * x * y + ground.c * y * y


def box(layer, left, right, low, high):
    """The pairs (x, y) of all places of a layer with left <= x <= right and low <= y <= high."""
    (px, py), lattice = pair(layer.point), layer.lattice
    a, b, d = fraction(lattice.a), fraction(lattice.b), fraction(lattice.d)
    found = []
    for m in range(math.ceil((left - px) / a), math.floor((right - px) / a) + 1):
        y = py + m * b
        for n in range(math.ceil((low - y) / d), math.floor((high - y) / d) + 1):
            found.append((px + m * a, y + n * d))
    return found


def reach(square):
    """A whole number whose square is at least a number."""
    return math.isqrt(math.ceil(square)) + 1


def around(ground, layer, point, far):
    """The triples (measure, x, y) of all places of a layer at most so far from a point, ascending."""
    px, py = pair(point)
    across = Fraction(4 * ground.a * ground.c - ground.b * ground.b)
    width, height = reach(4 * ground.c * far / across), reach(4 * ground.a * far / across)
    places = box(layer, px - width, px + width, py - height, py + height)
    found = [(measure_of(ground, x - px, y - py), x, y) for x, y in places]
    return sorted(one for one in found if one[0] <= far)


def closest(ground, layer, point):
    """The least measure from a point to a layer, with the places that have it."""
    some = pair(point - layer.lattice.rest(point - layer.point))
    px, py = pair(point)
    found = around(ground, layer, point, measure_of(ground, some[0] - px, some[1] - py))
    return found[0][0], [one[1:] for one in found if one[0] == found[0][0]]


def told(points):
    """Points as pairs of fractions."""
    return [pair(point) for point in points]


def point_of(x, y):
    """A Point of two fractions."""
    return Point(Ratio(x.numerator, x.denominator), Ratio(y.numerator, y.denominator))


def root_of(number):
    """The fraction whose square is a number, or None."""
    top, bottom = math.isqrt(number.numerator), math.isqrt(number.denominator)
    return Fraction(top, bottom) if Fraction(top, bottom) ** 2 == number else None


def tables_between(ground, lattice, other_ground, other, stretch=False):
    """The tables that carry a lattice to another one and keep lengths, if asked for up to stretching."""
    across = 4 * ground.a * ground.c - ground.b * ground.b
    other_across = 4 * other_ground.a * other_ground.c - other_ground.b * other_ground.b
    many = root_of(fraction(other.cell) ** 2 * other_across / (fraction(lattice.cell) ** 2 * across))
    if many is None or (many != 1 and not stretch):
        return []
    first, second = [pair(row) for row in lattice.rows()]
    both = (first[0] + second[0], first[1] + second[1])
    wanted = [many * measure_of(ground, *point) for point in (first, second, both)]
    steps = around(other_ground, Layer(Point(0, 0), other), Point(0, 0), max(wanted[:2]))
    found = []
    for _, x, y in [step for step in steps if step[0] == wanted[0]]:
        for _, z, w in [step for step in steps if step[0] == wanted[1]]:
            if measure_of(other_ground, x + z, y + w) == wanted[2] and abs(x * w - y * z) == fraction(other.cell):
                area = first[0] * second[1] - first[1] * second[0]
                # The table that takes the rows to (x, y) and (z, w).
                found.append((((x * second[1] - z * first[1]) / area, (z * first[0] - x * second[0]) / area),
                              ((y * second[1] - w * first[1]) / area, (w * first[0] - y * second[0]) / area)))
    return found


def motions_between(ground, tile, other_ground, other, mirrors=True, stretch=False):
    """All motions that carry a tile to another one, by trying all shifts that take one mark to another one."""
    found = []
    counts = [[(letter, len(each.marks(letter))) for letter in each.letters()] for each in (tile, other)]
    if counts[0] != counts[1]:
        return found
    letter = min(tile.letters(), key=lambda one: len(tile.marks(one)))
    marks = [(one, point) for one in tile.letters() for point in tile.marks(one)]
    for above, below in tables_between(ground, tile.lattice, other_ground, other.lattice, stretch):
        if above[0] * below[1] - above[1] * below[0] < 0 and not mirrors:
            continue
        table = [[Ratio(number.numerator, number.denominator) for number in row] for row in (above, below)]
        for mark in other.marks(letter):
            motion = Motion(table, other.lattice.rest(mark - Motion(table)(tile.marks(letter)[0])))
            if all(other.letter_at(motion(point)) == one for one, point in marks):
                found.append(motion)
    return found


def keys_of(motions):
    """What tells motions, to be compared and ordered."""
    return sorted([tuple(fraction(number) for row in motion.table for number in row) + pair(motion.shift) for motion in motions])
