"""Corridors: strips without end on both sides, and the places of sets in them, step by step."""

from math import gcd

from overfloors.errors import BadNumber, Flat, NoWidth, TooMany
from overfloors.layers import common_grid, grid_of, scales_of
from overfloors.meshes import mesh_of
from overfloors.motions import Motion, undone
from overfloors.order import ranked
from overfloors.places import alone, signs_of
from overfloors.points import Point, carried, cross, summed
from overfloors.ratios import Ratio, is_int, ratio_of
from overfloors.windows import Trail, Window, ceiling, count_layer, leaps

MOST = 3
FEW = 16


def heights_in(grid, low, high):
    """The number of different heights y of places of a grid with low <= y < high."""
    step = gcd(grid[3], grid[4])
    return (grid[1] - low) // step - (grid[1] - high) // step


def lap_of(grid):
    """How far apart the places of one height are."""
    return grid[2] * (grid[4] // gcd(grid[3], grid[4]))


def gaps_of(grid, low, high):
    """A dict from the gaps of a grid in the strip low <= y < high to the number of them in one lap."""
    if low >= high:
        return {}
    if grid[4] <= high - low:
        return {grid[2]: lap_of(grid) // grid[2]}
    up, down = leaps(grid, high - low)
    # A leap up leads on from the heights below the first bound, one down from the second bound
    # on, and both together from what lies between them.
    first, second = high - up[1], low - down[1]
    found = {}
    for gap, start, end in ((up[0], low, first), (down[0], second, high), (up[0] + down[0], first, second)):
        # The second bound is beyond the strip only where no leap leads down within it.
        many = heights_in(grid, start, end if end <= high else high)
        if many > 0:
            found[gap] = found.get(gap, 0) + many
    return found


def common_grids(grids):
    """What the grids of each mask have in common, None for nothing and for the mask 0."""
    found = [None]
    for grid in grids:
        more = [None if common is None else common_grid(common, grid) for common in found[1:]]
        found = found + [grid] + more
    return found


def share_of(grid, low, high):
    """The number of places of a grid in the strip low <= y < high for each unit of x, in the long run; 0 for None."""
    return Ratio(0) if grid is None else Ratio(heights_in(grid, low, high), lap_of(grid))


def present_in(table, grids, low, high):
    """For each mask whether points of this pattern belong to a set and stand in the strip low <= y < high."""
    shares = alone([share_of(grid, low, high) for grid in grids])
    return [bool(belongs) and share > 0 for belongs, share in zip(table, shares)]


def is_least(table, mask):
    """True if a mask is in a table, but none that has only some of its bits."""
    return table[mask] and not any([held and part & mask == part and part != mask for part, held in enumerate(table)])


def is_in(grid, x, y):
    """True if a grid has the place (x, y)."""
    left, low, a, b, d = grid
    return (x - left) % a == 0 and (y - low - (x - left) // a * b) % d == 0


class Crowd:
    """The places of a set in a corridor from a step on, one behind the other, told by integers.

    The trails are those of what layers of the set have in common; the signs of the trails that
    hold a point add up to 1 if it belongs to the set, otherwise to 0. All places of the set stand
    on the leading trails, which come first.
    """

    def __init__(self, corridor, places, first):
        moved = [layer.moved(corridor.back) for layer in places.layers]
        self.across, self.upward = scales_of(moved)
        self.low, high = ceiling(corridor.low, self.upward), ceiling(corridor.high, self.upward)
        self.grids = [grid_of(layer, self.across, self.upward) for layer in moved]
        grids = common_grids(self.grids)
        self.table = present_in(places.table, grids, self.low, high)
        table = self.table
        signs = signs_of(table)
        leaders = [mask for mask in range(len(table)) if is_least(table, mask)]
        others = [mask for mask in range(len(table)) if signs[mask] != 0 and grids[mask] is not None]
        masks = leaders + [mask for mask in others if mask not in leaders]
        self.leaders = len(leaders)
        self.signs = [signs[mask] for mask in masks]
        self.trails = [Trail(grids[mask], self.low, high) for mask in masks]
        self.starts = self.indexes_from(ceiling(ratio_of(first), self.across), self.low)

    def indexes_from(self, x, y):
        """For each trail the index of the first place that is not before (x, y)."""
        return [trail.index_from(x, y) for trail in self.trails]

    def ahead(self, ends):
        """How many places of the set there are from the first step on below some indexes."""
        amounts = [trail.many_between(start, end) for trail, start, end in zip(self.trails, self.starts, ends)]
        return sum([sign * amount for sign, amount in zip(self.signs, amounts)])

    def nearest_after(self, many):
        """The first pair (x, y) that has so many places of a leading trail between it and the first step."""
        found = [trail.place(start + many) for trail, start in zip(self.trails, self.starts)]
        return found[ranked(found[:self.leaders])[0]]

    def beyond(self, number):
        """Indexes below which there are more than so many places of the set."""
        many = number + 1
        while True:
            x, y = self.nearest_after(many)
            ends = self.indexes_from(x, y)
            if self.ahead(ends) > number:
                return ends
            many = 2 * many

    def close_to(self, number):
        """Indexes from which on and below which the place with so many ahead of it stands, close to one another."""
        firsts, ends = self.starts, self.beyond(number)
        while True:
            lengths = [ends[index] - firsts[index] for index in range(self.leaders)]
            longest = lengths.index(max([int(length) for length in lengths]))
            if lengths[longest] <= FEW:
                return firsts, ends
            x, y = self.trails[longest].place(firsts[longest] + lengths[longest] // 2)
            middle = self.indexes_from(x, y)
            if self.ahead(middle) > number:
                ends = middle
            else:
                firsts = middle

    def places_between(self, firsts, ends):
        """The pairs (x, y) of the places of the set on the leading trails between some indexes, in their order."""
        pairs = []
        for index in range(self.leaders):
            pairs.extend(self.trails[index].places_between(firsts[index], ends[index]))
        found = []
        before = None
        for pair in [pairs[index] for index in ranked(pairs)]:
            mask = sum([1 << index for index, grid in enumerate(self.grids) if is_in(grid, pair[0], pair[1])])
            if before != pair and self.table[mask]:
                found.append(pair)
            before = pair
        return found


class Corridor:
    """All points s * along + t * across with low <= t < high; s is the step of such a point."""

    def __init__(self, along, across, low, high):
        if not cross(along, across):
            raise Flat()
        self.along = along
        self.across = across
        self.low = ratio_of(low)
        self.high = ratio_of(high)
        if self.low >= self.high:
            raise NoWidth()
        # It takes s * along + t * across to (s, t).
        self.back = Motion(undone(((along.x, across.x), (along.y, across.y))))

    def __contains__(self, point):
        height = carried(point, self.back.table).y
        return self.low <= height and height < self.high

    def step_of(self, point):
        """The step s of any point."""
        return carried(point, self.back.table).x

    def amount(self, places, first, last):
        """How many places of a set in the corridor have a step from first on, below last."""
        window = Window(first, last, self.low, self.high)
        return sum([sign * count_layer(layer.moved(self.back), window) for _, sign, layer in places.terms])

    def next_from(self, places, first):
        """The first place of a set in the corridor with a step from first on, or None."""
        return self.kth(places, first, 0)

    def kth(self, places, first, number):
        """The place of a set in the corridor with so many ahead of it that have a step from first on, or None."""
        if len(places.layers) > MOST:
            raise TooMany(MOST)
        if not is_int(number) or number < 0:
            raise BadNumber(number)
        crowd = Crowd(self, places, first)
        if crowd.leaders == 0:
            return None
        firsts, ends = crowd.close_to(number)
        x, y = crowd.places_between(firsts, ends)[number - crowd.ahead(firsts)]
        step, height = Ratio(x, crowd.across), Ratio(y, crowd.upward)
        across = summed(self.along.x, step, self.across.x, height)
        return Point(across, summed(self.along.y, step, self.across.y, height))

    def share(self, places):
        """The number of places of a set in the corridor for each unit of step, in the long run."""
        total = Ratio(0)
        for _, sign, layer in places.terms:
            grid, across, low, high = self.flat(layer)
            total = total + share_of(grid, low, high) * (sign * across)
        return total

    def flat(self, layer):
        """The grid of a layer along the corridor, its scale, and the bounds of the corridor, all integers."""
        across, upward, grid = mesh_of(layer.moved(self.back))
        return grid, across, ceiling(self.low, upward), ceiling(self.high, upward)

    def gaps(self, layer):
        """Pairs of the gaps of a layer, ascending, and the number of such gaps for each unit of step."""
        grid, across, low, high = self.flat(layer)
        found = gaps_of(grid, low, high)
        lap = lap_of(grid)
        return [(Ratio(gap, across), Ratio(found[gap] * across, lap)) for gap in sorted([int(gap) for gap in found])]
