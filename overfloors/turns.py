"""Mirrors and turns of a ground, told by directions, and their indices in the whole floor."""

from math import gcd, isqrt

from overfloors.errors import BadNumber, Flat, TooMany
from overfloors.motions import Motion
from overfloors.order import ranked
from overfloors.points import Point
from overfloors.ratios import Ratio, divisors_of, is_count, order_keys

MOST_INDEX = 10000
MOST_LISTED = 200


def without_divisor(x, y):
    """Two integers, not both 0, divided by their greatest common divisor."""
    common = gcd(x, y)
    return x // common, y // common


def whole_on(point):
    """The figures without common divisor of the whole point on the line of a point, on its side."""
    if not point:
        raise Flat()
    return without_divisor(point.x.top * point.y.bottom, point.y.top * point.x.bottom)


def told_by(point):
    """The whole Point that tells the direction of a point."""
    x, y = whole_on(point)
    if y < 0 or (y == 0 and x < 0):
        return Point(-x, -y)
    return Point(x, y)


def mirror_figures(ground, x, y):
    """The measure of a whole point, and the table of the mirror in its direction taken so many times."""
    first = 2 * ground.a * x + ground.b * y
    second = ground.b * x + 2 * ground.c * y
    # first * x + second * y is twice as much.
    measure = ground.a * x * x + ground.b * x * y + ground.c * y * y
    return measure, first * x - measure, second * x, first * y, second * y - measure


def mirror(ground, point):
    """The mirror in the direction of a point."""
    x, y = whole_on(point)
    measure, a, b, c, d = mirror_figures(ground, x, y)
    return Motion([[Ratio(a, measure), Ratio(b, measure)], [Ratio(c, measure), Ratio(d, measure)]])


def turn(ground, point):
    """The turn to the direction of a point: the mirror in the direction (1, 0), then that in the point's."""
    x, y = whole_on(point)
    measure, a, b, c, d = mirror_figures(ground, x, y)
    # The mirror in the direction (1, 0) keeps (1, 0) and takes (0, 1) to (lean / long, -1).
    lean, long = ground.b, ground.a
    above = [Ratio(a, measure), Ratio(a * lean - b * long, measure * long)]
    return Motion([above, [Ratio(c, measure), Ratio(c * lean - d * long, measure * long)]])


def direction(ground, motion):
    """The whole Point whose turn or mirror a motion is but for its shift, None if it keeps no lengths."""
    if motion.stretch(ground) != 1:
        return None
    (a, b), (c, d) = motion.table
    if motion.factor() == 1:
        # The mirror in the direction (1, 0) comes first.
        lean = Ratio(ground.b, ground.a)
        b, d = a * lean - b, c * lean - d
    # In a mirror each point and its image add up to a point of the direction, which is
    # (0, 0) for the points straight across it.
    both = Point(a + 1, c)
    return told_by(both if both else Point(b, d + 1))


def plain_form(ground):
    """The integers (a, b, c) of a ground without their greatest common divisor."""
    common = gcd(gcd(ground.a, ground.b), ground.c)
    return ground.a // common, ground.b // common, ground.c // common


def extent(form):
    """4 a c - b b, which all common divisors of indices divide."""
    a, b, c = form
    return 4 * a * c - b * b


def lifted(form, x, y):
    """The whole (m, n) of [29] for a direction: on the line of (a x, y), on its side."""
    return without_divisor(form[0] * x, y)


def lowered(form, m, n):
    """The whole direction without common divisor that lifted takes to (m, n)."""
    return without_divisor(m, form[0] * n)


def index_by(form, m, n):
    """The index of the turn of the lifted direction (m, n)."""
    a, b, c = form
    number = m * m + b * m * n + a * c * n * n
    common = gcd(gcd(number, 2 * m + b * n), b * m + 2 * a * c * n)
    return number // common


def turn_index(ground, point):
    """The index in the whole floor of the turn to the direction of a point."""
    x, y = whole_on(point)
    form = plain_form(ground)
    m, n = lifted(form, x, y)
    return index_by(form, m, n)


def root_of(number):
    """The integer from 0 on whose square is an integer from 0 on, None if there is none."""
    root = isqrt(number)
    return root if root * root == number else None


def lifted_with(form, number):
    """All lifted directions (m, n) with m m + b m n + a c n n = number and n from 0 on; (1, 0) alone has n = 0."""
    b = form[1]
    across = extent(form)
    found = [(1, 0)] if number == 1 else []
    for n in range(1, isqrt(4 * number // across) + 1):
        root = root_of(4 * number - across * n * n)
        if root is None:
            continue
        for twice in [root - b * n, -root - b * n] if root > 0 else [-b * n]:
            if gcd(twice // 2, n) == 1:
                found.append((twice // 2, n))
    return found


def directions_of(form, index):
    """The whole directions of all turns with an index, in any order."""
    found = []
    for common in divisors_of(extent(form)):
        lifts = lifted_with(form, index * common)
        found = found + [lowered(form, m, n) for m, n in lifts if index_by(form, m, n) == index]
    return found


def is_index(form, divisors, index):
    """True if some turn has an index, for the divisors that common divisors of indices can be."""
    for common in divisors:
        if any([index_by(form, m, n) == index for m, n in lifted_with(form, index * common)]):
            return True
    return False


def turns_of(ground, index, *, most=500):
    """The directions of all turns with an index in the whole floor, in the order in which a turning line meets them."""
    if not is_count(index) or index > MOST_INDEX:
        raise BadNumber(index)
    found = directions_of(plain_form(ground), index)
    if len(found) > most:
        raise TooMany(most)
    if len(found) == 0:
        return []
    keys = order_keys([Ratio(-x, y if y > 0 else 1) for x, y in found])
    order = ranked([(0 if y == 0 else 1, key) for (x, y), key in zip(found, keys)])
    return [Point(found[at][0], found[at][1]) for at in order]


def indices_to(ground, most):
    """All indices of turns in the whole floor up to most, the least one first."""
    if not is_count(most) or most > MOST_LISTED:
        raise BadNumber(most)
    form = plain_form(ground)
    divisors = divisors_of(extent(form))
    return [index for index in range(1, most + 1) if is_index(form, divisors, index)]
