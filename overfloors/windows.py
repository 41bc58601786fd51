"""Windows: how many places of a set they hold, and which ones, however many columns there are."""

from overfloors.meshes import mesh_of
from overfloors.ratios import ratio_of


class Window:
    """All points (x, y) with left <= x < right and low <= y < high."""

    def __init__(self, left, right, low, high):
        self.left = ratio_of(left)
        self.right = ratio_of(right)
        self.low = ratio_of(low)
        self.high = ratio_of(high)

    def __contains__(self, point):
        across = self.left <= point.x and point.x < self.right
        return across and self.low <= point.y and point.y < self.high

    def __eq__(self, other):
        if not isinstance(other, Window):
            return False
        sides = (other.left, other.right, other.low, other.high)
        return (self.left, self.right, self.low, self.high) == sides


def floor_sum(many, start, step, bottom):
    """The sum of the floors of (start + step * i) / bottom for the first so many integers i from 0 on."""
    total = 0
    while many > 0:
        total = total + many * (start // bottom) + many * (many - 1) // 2 * (step // bottom)
        start, step = start % bottom, step % bottom
        # What is left are the places below a line, which are counted from its other side now.
        end = start + step * many
        many, start, step, bottom = end // bottom, end % bottom, bottom, step
    return total


def ceiling(number, many):
    """The least integer that is not below so many times a Ratio."""
    return -(-number.top * many // number.bottom)


def leaps(grid, width):
    """The two steps (x, y) that lead on from place to place of a grid in a strip 0 <= y < width, the width above 0.

    The first one leads up by less than the width, or stays at one height, the second one leads
    down by less than the width. Each is the first such step, by x, then by y. If all places are so
    far apart that no step leads down within the strip, the second one leads down by the least
    difference of heights.
    """
    _, _, a, b, d = grid
    if d < width:
        return (0, d), (a, b - (width - 1 + b) // d * d)
    up, down = (0, d), (a, b - d)
    while up[1] >= width or (up[1] > 0 and -down[1] >= width):
        rise, fall = up[1], -down[1]
        if rise >= fall:
            many = min(int(rise // fall), (rise - width) // fall + 1)
            up = up[0] + many * down[0], rise - many * fall
        else:
            many = min(int((fall - 1) // rise), (fall - width) // rise + 1)
            down = down[0] + many * up[0], many * rise - fall
    return up, down


class Trail:
    """The places of a grid in a strip low <= y < high, the width above 0, one behind the other by x, then by y.

    Places are told by integers. The strip is made somewhat wider, so that each place is followed by
    one that is a leap up or a leap down away: heights then go around like the hand of a clock.
    """

    def __init__(self, grid, low, high):
        x, y, a, _, d = grid
        self.x, self.low, self.width = x, low, high - low
        self.up, self.down = leaps(grid, self.width)
        self.rise, fall = self.up[1], -self.down[1]
        self.around = self.rise + fall
        self.start = y - low
        self.area = a * d
        # The same for x alone, by the leaps that come more often: how far the hand goes, where it
        # starts, how far such a leap leads on, and how far the other one does.
        often = (self.rise, self.start, self.up[0], self.down[0])
        self.often = often if self.rise <= fall else (fall, self.around - 1 - self.start, self.down[0], self.up[0])

    def is_inside(self, index):
        """True if a place is in the strip itself."""
        return (self.start + index * self.rise) % self.around < self.width

    def place(self, index):
        """The pair (x, y) of a place."""
        turned = self.start + index * self.rise
        lead = turned // self.around
        return self.x + (index - lead) * self.up[0] + lead * self.down[0], self.low + turned % self.around

    def index_at(self, x):
        """The index of the first place that is not left of x."""
        step, start, near, far = self.often
        if step == 0:
            lead = start // self.around
            return lead - (self.x + lead * far - x) // near
        # Such leaps come in runs, one for each time that the hand goes around. The first place of
        # this run is left of x, and that of the next run but one is not.
        lead = (step * (x - self.x) + near * start) // self.area - 1
        index = -((start - lead * self.around) // step)
        while True:
            left = x - self.x - (index - lead) * near - lead * far
            end = -((start - (lead + 1) * self.around) // step)
            if left <= 0:
                return index
            if near > 0 and index - (-left // near) < end:
                return index - (-left // near)
            index, lead = end, lead + 1

    def index_from(self, x, y):
        """The index of the first place that is not before (x, y)."""
        index = self.index_at(x)
        first, height = self.place(index)
        if first > x or height >= y:
            return index
        if self.up[0] > 0:
            return index + 1
        # Several places have this x: those up to the bound of the strip.
        more = (self.low + self.around - 1 - height) // self.rise + 1
        return index + min(int(more), -((height - y) // self.rise))

    def many_between(self, first, end):
        """How many places from an index on, below another one, are in the strip itself."""
        start = self.start + first * self.rise
        above = floor_sum(end - first, start - self.width, self.rise, self.around)
        return floor_sum(end - first, start, self.rise, self.around) - above

    def places_between(self, first, end):
        """The pairs (x, y) of these places."""
        return [self.place(index) for index in range(first, end) if self.is_inside(index)]


class View:
    """The places of a layer in a window, and how many they are.

    There is no trail, None, if the window is empty, or so narrow that it has no place of the layer.
    """

    def __init__(self, layer, window):
        self.across, self.upward, grid = mesh_of(layer)
        left, right = ceiling(window.left, self.across), ceiling(window.right, self.across)
        low, high = ceiling(window.low, self.upward), ceiling(window.high, self.upward)
        self.trail, self.many = None, 0
        if left < right and low < high:
            self.trail = Trail(grid, low, high)
            self.first, self.end = self.trail.index_at(left), self.trail.index_at(right)
            self.many = self.trail.many_between(self.first, self.end)

    def places(self):
        """The places, as pairs (x, y) of integers, so many times as great: ordered by x, then by y."""
        # Where the strip itself has no place the trail may still have very many beside it.
        return [] if self.many == 0 else self.trail.places_between(self.first, self.end)


def count_layer(layer, window):
    """How many places of a layer are in a window."""
    return View(layer, window).many


def count_in(places, window):
    """How many places of a set are in a window."""
    return sum([sign * count_layer(layer, window) for _, sign, layer in places.terms])
