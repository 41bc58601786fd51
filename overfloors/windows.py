"""Windows: how many places of a set they hold, and which ones, however many columns there are."""

from overfloors.layers import grid_of, scaled, scales_of
from overfloors.points import Point
from overfloors.ratios import Ratio, ratio_of


class Window:
    """All points (x, y) with left <= x < right and low <= y < high."""

    def __init__(self, left, right, low, high):
        self.left = ratio_of(left)
        self.right = ratio_of(right)
        self.low = ratio_of(low)
        self.high = ratio_of(high)

    def __contains__(self, point):
        across = self.left <= point.x and point.x < self.right
        return across and self.low <= point.y and point.y < self.high

    def __eq__(self, other):
        if not isinstance(other, Window):
            return False
        sides = (other.left, other.right, other.low, other.high)
        return (self.left, self.right, self.low, self.high) == sides


def floor_sum(many, start, step, bottom):
    """The sum of the floors of (start + step * i) / bottom for the first so many integers i from 0 on."""
    total = 0
    while many > 0:
        total = total + many * (start // bottom) + many * (many - 1) // 2 * (step // bottom)
        start, step = start % bottom, step % bottom
        # What is left are the places below a line, which are counted from its other side now.
        end = start + step * many
        many, start, step, bottom = end // bottom, end % bottom, bottom, step
    return total


def ceiling(number, many):
    """The least integer that is not below so many times a Ratio."""
    return -(-number.top * many // number.bottom)


def count_below(grid, left, right, bound):
    """How many places of a grid stand in the columns from left on, below right, and below a bound.

    They are counted from a height that is the same for all bounds, perhaps below 0.
    """
    x, y, a, b, d = grid
    first, end = -((x - left) // a), -((x - right) // a)
    return floor_sum(end - first, bound - 1 - y - first * b, -b, d)


def count_grid(grid, left, right, low, high):
    """How many places of a grid have left <= x < right and low <= y < high, all of these integers."""
    if low >= high:
        return 0
    return count_below(grid, left, right, high) - count_below(grid, left, right, low)


def count_layer(layer, window):
    """How many places of a layer are in a window."""
    across, upward = scales_of([layer])
    left, right = ceiling(window.left, across), ceiling(window.right, across)
    low, high = ceiling(window.low, upward), ceiling(window.high, upward)
    return count_grid(grid_of(layer, across, upward), left, right, low, high)


def count_in(places, window):
    """How many places of a set are in a window."""
    return sum([sign * count_layer(layer, window) for _, sign, layer in places.terms])


def leaps(grid, width):
    """The two steps (x, y) that lead on from place to place of a grid in a strip 0 <= y < width, the width above 0.

    The first one leads up by less than the width, or stays at one height, the second one leads
    down by less than the width. Each is the first such step, by x, then by y. If all places are so
    far apart that no step leads down within the strip, the second one leads down by the least
    difference of heights.
    """
    _, _, a, b, d = grid
    if d < width:
        return (0, d), (a, b - (width - 1 + b) // d * d)
    up, down = (0, d), (a, b - d)
    while up[1] >= width or (up[1] > 0 and -down[1] >= width):
        rise, fall = up[1], -down[1]
        if rise >= fall:
            many = min(int(rise // fall), (rise - width) // fall + 1)
            up = up[0] + many * down[0], rise - many * fall
        else:
            many = min(int((fall - 1) // rise), (fall - width) // rise + 1)
            down = down[0] + many * up[0], many * rise - fall
    return up, down


class Trail:
    """The places of a grid in a strip low <= y < high, the width above 0, one behind the other by x, then by y.

    Places are told by integers. The strip is made somewhat wider, so that each place is followed by
    one that is a leap up or a leap down away: heights then go around like the hand of a clock.
    """

    def __init__(self, grid, low, high):
        x, y, a, _, d = grid
        self.x, self.low, self.width = x, low, high - low
        self.up, self.down = leaps(grid, self.width)
        self.rise = self.up[1]
        self.around = self.rise - self.down[1]
        self.start = y - low
        self.cell = a * d

    def turned(self, index):
        """How far the hand of the clock has come, told from the lower bound, at a place."""
        return self.start + index * self.rise

    def inside(self, index):
        """True if a place is in the strip itself."""
        return self.turned(index) % self.around < self.width

    def place(self, index):
        """The pair (x, y) of a place."""
        turned = self.turned(index)
        lead = turned // self.around
        return self.x + (index - lead) * self.up[0] + lead * self.down[0], self.low + turned % self.around

    def index_from(self, x, y):
        """The index of the first place that is not before (x, y)."""
        lead = self.down[0] - self.up[0]
        # The x of a place differs by at most this from that of an even walk.
        sway = lead * (self.around - 1)
        even = (x - self.x) * self.around - lead * self.start
        low = -((-even - min(0, sway)) // self.cell)
        high = -((-even - self.around - max(0, sway)) // self.cell)
        while low < high:
            middle = (low + high) // 2
            if self.place(middle) < (x, y):
                low = middle + 1
            else:
                high = middle
        return low

    def amount(self, first, end):
        """How many places from an index on, below another one, are in the strip itself."""
        start = self.turned(first)
        above = floor_sum(end - first, start - self.width, self.rise, self.around)
        return floor_sum(end - first, start, self.rise, self.around) - above

    def places(self, first, end):
        """The pairs (x, y) of these places."""
        return [self.place(index) for index in range(first, end) if self.inside(index)]


def places_in(layer, window):
    """The places of a layer in a window, ordered by x, then by y."""
    if count_layer(layer, window) == 0:
        return []
    across, upward = scales_of([layer])
    low = ceiling(window.low, upward)
    trail = Trail(grid_of(layer, across, upward), low, ceiling(window.high, upward))
    first = trail.index_from(ceiling(window.left, across), low)
    end = trail.index_from(ceiling(window.right, across), low)
    return [Point(Ratio(x, across), Ratio(y, upward)) for x, y in trail.places(first, end)]
