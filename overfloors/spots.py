"""Spots: what of a floor is seen around the points of a layer, and how often."""

from overfloors.errors import TooMany
from overfloors.layers import Layer
from overfloors.meshes import mesh_of
from overfloors.points import ranked_points
from overfloors.windows import View, Window, floor_sum

MOST = 20


def common_lattice(floor):
    """The common part of the lattices of all layers of a floor."""
    lattices = [layer.lattice for _, layer in floor.laid]
    common = lattices[0]
    for lattice in lattices[1:]:
        common = common & lattice
    return common


def marks_in(floor, window):
    """The pairs (letter, point) of a floor in a window, ordered by x, then by y."""
    views = [View(layer, window) for _, layer in floor.laid]
    if sum([view.many for view in views]) > MOST:
        raise TooMany(MOST)
    found = [(letter, point) for (letter, _), view in zip(floor.laid, views) for point in view.places()]
    return [found[index] for index in ranked_points([point for _, point in found])]


def spans_of(figures, low, high, scale, end):
    """For each coordinate of a mark the first integer from which on it is seen, and the first behind these.

    The integers tell from how many parts of a unit the mark is seen; they go from 0 on, below the end.
    """
    found = []
    for figure in figures:
        first, last = [
            (figure.top * side.bottom - side.top * figure.bottom) * scale // (figure.bottom * side.bottom) + 1
            for side in (high, low)
        ]
        found.append((min(max(0, first), int(end)), min(max(0, last), int(end))))
    return found


def edges_of(spans, end):
    """All integers from 0 to the end at which something else is seen than before, ascending."""
    sides = [side for span in spans for side in span]
    return sorted(set([int(side) for side in [0, end, *sides]]))


def seen_at(spans, figure):
    """Whether each span holds an integer."""
    return [start <= figure and figure < end for start, end in spans]


def count_below(grid, left, right, bound):
    """How many places of a grid stand in the columns from left on, below right, and below a bound.

    They are counted from a height that is the same for all bounds, perhaps below 0.
    """
    x, y, a, b, d = grid
    first, end = -((x - left) // a), -((x - right) // a)
    return floor_sum(end - first, bound - 1 - y - first * b, -b, d)


def counts_of(grid, across, upward, ends):
    """A dict from tuples of the indexes of the marks that are seen to the number of places of a grid that see them.

    The spans of the marks in both directions are told, and the ends of the oblong in which places count.
    """
    columns, rows = edges_of(across, ends[0]), edges_of(upward, ends[1])
    heights = [seen_at(upward, low) for low in rows[:-1]]
    found = {}
    for left, right in zip(columns, columns[1:]):
        widths = seen_at(across, left)
        below = [count_below(grid, left, right, bound) for bound in rows]
        for height, low, high in zip(heights, below, below[1:]):
            if high > low:
                seen = tuple([index for index in range(len(across)) if widths[index] and height[index]])
                found[seen] = found.get(seen, 0) + high - low
    return found


def picture_of(marks):
    """The triples (letter, dx, dy) of marks, the differences to the first one."""
    steps = [(letter, point - marks[0][1]) for letter, point in marks]
    return tuple([(letter, step.x, step.y) for letter, step in steps])


def key_by(picture):
    """What tells a picture, as a key of a dict."""
    return tuple([(letter, x.top, x.bottom, y.top, y.bottom) for letter, x, y in picture])


def spots(layer, floor, window):
    """Pairs of the pictures of a floor that are seen from the points of a layer, and the thickness of such points."""
    if len(floor.laid) == 0:
        return [((), layer.thickness)]
    common = common_lattice(floor)
    marks = marks_in(floor, Window(window.left, window.right + common.a, window.low, window.high + common.d))
    # What is seen from a point is seen again from all points a common step away, so points
    # count that lead to one another by steps of the layer and of the floor, in one oblong.
    joint = Layer(layer.point, layer.lattice + common)
    wide, high, grid = mesh_of(joint)
    ends = common.a.top * (wide // common.a.bottom), common.d.top * (high // common.d.bottom)
    across = spans_of([point.x for _, point in marks], window.left, window.right, wide, ends[0])
    upward = spans_of([point.y for _, point in marks], window.low, window.high, high, ends[1])
    counts = counts_of(grid, across, upward, ends)
    unit = layer.thickness.over(common.cell.over(joint.lattice.cell))
    pictures, many = {}, {}
    for seen in counts:
        picture = picture_of([marks[index] for index in seen])
        key = key_by(picture)
        pictures[key] = picture
        many[key] = many.get(key, 0) + counts[seen]
    return [(pictures[key], unit * many[key]) for key in pictures]
