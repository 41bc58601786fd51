"""Spots: what of a floor is seen around the points of a layer, and how often."""

from math import lcm

from overfloors.errors import TooMany
from overfloors.layers import Layer
from overfloors.meshes import mesh_of
from overfloors.order import ranked
from overfloors.ratios import Ratio
from overfloors.windows import View, Window, floor_sum

MOST = 20


def common_lattice(floor):
    """The common part of the lattices of all layers of a floor."""
    lattices = [layer.lattice for _, layer in floor.laid]
    common = lattices[0]
    for lattice in lattices[1:]:
        common = common & lattice
    return common


def marks_in(floor, window):
    """The marks of a floor in a window: two scales, and triples (letter, x, y) by integers, ordered by x, then by y."""
    views = [View(layer, window) for _, layer in floor.laid]
    if sum([view.many for view in views]) > MOST:
        raise TooMany(MOST)
    across, upward = 1, 1
    for view in views:
        across, upward = lcm(across, view.across), lcm(upward, view.upward)
    letters, places = [], []
    for (letter, _), view in zip(floor.laid, views):
        wide, high = across // view.across, upward // view.upward
        for x, y in view.places():
            letters.append(letter)
            places.append((x * wide, y * high))
    return across, upward, [(letters[index], *places[index]) for index in ranked(places)]


def spans_of(figures, many, bounds, scale, end):
    """For each coordinate of a mark the first integer from which on it is seen, and the first behind these.

    The figures tell a coordinate so many times. The integers tell from how many parts of a unit the
    mark is seen; they go from 0 on, below the end.
    """
    low, high = bounds
    found = []
    for figure in figures:
        first = (figure * high.bottom - high.top * many) * scale // (high.bottom * many) + 1
        last = (figure * low.bottom - low.top * many) * scale // (low.bottom * many) + 1
        found.append((min(max(0, first), int(end)), min(max(0, last), int(end))))
    return found


def edges_of(spans, end):
    """All integers from 0 to the end at which something else is seen than before, ascending."""
    sides = [side for span in spans for side in span]
    return sorted(set([int(side) for side in [0, end, *sides]]))


def seen_at(spans, figure):
    """Whether each span holds an integer."""
    return [start <= figure and figure < end for start, end in spans]


def count_below(grid, left, right, bound):
    """How many places of a grid stand in the columns from left on, below right, and below a bound.

    They are counted from a height that is the same for all bounds, perhaps below 0.
    """
    x, y, a, b, d = grid
    first, end = -((x - left) // a), -((x - right) // a)
    return floor_sum(end - first, bound - 1 - y - first * b, -b, d)


def counts_of(grid, across, upward, ends):
    """A dict from tuples of the indexes of the marks that are seen to the number of places of a grid that see them.

    The spans of the marks in both directions are told, and the ends of the oblong in which places count.
    """
    columns, rows = edges_of(across, ends[0]), edges_of(upward, ends[1])
    heights = [seen_at(upward, low) for low in rows[:-1]]
    found = {}
    for left, right in zip(columns, columns[1:]):
        widths = seen_at(across, left)
        below = [count_below(grid, left, right, bound) for bound in rows]
        for height, low, high in zip(heights, below, below[1:]):
            if high > low:
                seen = tuple([index for index in range(len(across)) if widths[index] and height[index]])
                found[seen] = found.get(seen, 0) + high - low
    return found


def seen_from_first(marks):
    """The triples (letter, dx, dy) of marks, the differences to the first one."""
    if len(marks) == 0:
        return ()
    _, left, low = marks[0]
    return tuple([(letter, x - left, y - low) for letter, x, y in marks])


def spots(layer, floor, window):
    """Pairs of the pictures of a floor that are seen from the points of a layer, and the thickness of such points."""
    if len(floor.laid) == 0:
        return [((), layer.thickness)]
    common = common_lattice(floor)
    sight = Window(window.left, window.right + common.a, window.low, window.high + common.d)
    first, second, marks = marks_in(floor, sight)
    # What is seen from a point is seen again from all points a common step away, so points
    # count that lead to one another by steps of the layer and of the floor, in one oblong.
    joint = Layer(layer.point, layer.lattice + common)
    wide, high, grid = mesh_of(joint)
    ends = common.a.top * (wide // common.a.bottom), common.d.top * (high // common.d.bottom)
    across = spans_of([x for _, x, _ in marks], first, (window.left, window.right), wide, ends[0])
    upward = spans_of([y for _, _, y in marks], second, (window.low, window.high), high, ends[1])
    counts = counts_of(grid, across, upward, ends)
    unit = layer.thickness.over(common.cell.over(joint.lattice.cell))
    many = {}
    for seen in counts:
        picture = seen_from_first([marks[index] for index in seen])
        many[picture] = many.get(picture, 0) + counts[seen]
    return [
        (tuple([(letter, Ratio(x, first), Ratio(y, second)) for letter, x, y in picture]), unit * many[picture])
        for picture in many
    ]
