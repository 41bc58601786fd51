"""[4] to [49], [51] to [76]: what all functions tell stays as it was when they were slower.

The answers to drawn questions, of small numbers and of long ones, were written down as digests then. Of what is free
only what the document fixes is looked at: lists in any order are ordered, points that may be any ones are left out.
"""

import hashlib
import unittest

from overfloors.corridors import Corridor
from overfloors.covers import covers, window_points
from overfloors.errors import FloorError
from overfloors.floors import Floor, meetings
from overfloors.grounds import Ground
from overfloors.holes import clearance, holes
from overfloors.lattices import Lattice
from overfloors.layers import Layer
from overfloors.lines import lines_of
from overfloors.many import bar_of, fullest, gather, woven
from overfloors.motions import Motion, indices, shifting, stretching
from overfloors.near import differences, distance, gap, least_shifts, nearest, within
from overfloors.own import centres, common_motions, own_motions
from overfloors.places import Places
from overfloors.points import Form, Point, ascending_points, cross, value_at
from overfloors.ratios import Ratio, ascending, greatest, least
from overfloors.sectors import least_turn
from overfloors.shifts import best_shifts
from overfloors.spots import spots
from overfloors.stretches import Stretches
from overfloors.tiles import Tile
from overfloors.toldback import complements, count_partners, partners, sublattices, superlattices
from overfloors.turns import direction, indices_to, mirror, turn, turn_index, turns_of
from overfloors.windows import Window, count_in
from drawn import Draw

GROUNDS = [Ground(1, 0, 1), Ground(1, 1, 1), Ground(2, 1, 3), Ground(3, -2, 5), Ground(1, 1, 6)]
ROUNDS = {3: 40, 5: 40, 10 ** 12: 6, 10 ** 28: 5}
DIGESTS = {
    3: "8a28bc4c605322345a3da74196673ddd",
    5: "84029d83fe244730965663684ab2a506",
    10 ** 12: "d10286763a05fc2f8bcf4dbc7ab51501",
    10 ** 28: "87b074487fc179f90022fc163547a305",
}
# What is told of objects of these classes.
TOLD = {
    "Lattice": "a b d cell", "Layer": "point lattice thickness", "Motion": "table shift", "Bar": "numbers", "Lines": "r s",
    "Places": "layers", "Floor": "laid", "Tile": "lattice",
}


def shown(value):
    """A text that tells an answer."""
    if isinstance(value, (list, tuple)):
        return "[" + ",".join(shown(one) for one in value) + "]"
    if isinstance(value, dict):
        return shown(sorted((shown(key), shown(value[key])) for key in value))
    if isinstance(value, Ratio):
        return f"{value.top}/{value.bottom}"
    if isinstance(value, (Point, Form)):
        return f"({shown(value.x)} {shown(value.y)})"
    if value is None or isinstance(value, (int, str)):
        return str(value)
    name = type(value).__name__
    told = [getattr(value, attribute) for attribute in TOLD[name].split()]
    if name == "Places":
        told = told + [value.thick(), value.patterns(), bool(value)]
    if name == "Tile":
        told = told + [(letter, value.marks(letter)) for letter in value.letters()]
    return name + shown(told)


def in_any_order(values):
    """What a list tells whose order is free."""
    return sorted(shown(value) for value in values)


def asked(question):
    """The text of an answer, or of the error that comes instead."""
    try:
        return shown(question())
    except FloorError as error:
        return type(error).__name__


class Questions:
    """Drawn values, and questions about them."""

    def __init__(self, draw, size):
        self.draw, self.size = draw, size
        self.ground = draw.random.choice(GROUNDS)
        self.one, self.other, self.third = self.layer(), self.layer(), self.layer()
        first, second = self.one.lattice.rows()
        # A lattice within the first one, and the parts of the first layer by it.
        self.many = draw.random.randint(1, 6)
        lean = draw.random.randint(0, 5)
        self.part = Lattice([first + second * lean, second * self.many])
        self.parts = [Layer(self.one.point + second * index, self.part) for index in range(self.many)]
        self.point, self.beside = self.near_point(), draw.point(size)
        self.number = Ratio(draw.random.randint(1, 9), draw.random.randint(1, 4))
        self.motion = self.drawn_motion()
        line = Point(draw.random.randint(1, 5), draw.random.randint(0, 4))
        self.line, self.next_line = line, Point(-draw.random.randint(0, 3), draw.random.randint(1, 5))
        self.turned = Motion(draw.random.choice([turn, mirror])(self.ground, line).table, self.beside)

    def near_point(self):
        """A point around which a window has few places."""
        first, second = self.one.lattice.rows()
        return self.one.point + first * Ratio(self.draw.random.randint(-9, 9), 4) + second * Ratio(self.draw.random.randint(-9, 9), 3)

    def layer(self):
        kind = self.draw.random.randrange(3)
        lattice = self.draw.lattice(self.size) if kind == 0 else self.draw.whole_lattice(min(self.size, 4))
        return Layer(Point(0, 0) if kind == 2 else self.draw.point(self.size), lattice)

    def drawn_motion(self):
        while True:
            try:
                table = [[self.draw.ratio(self.size), self.draw.ratio(self.size)] for _ in range(2)]
                return Motion(table, self.draw.point(self.size))
            except FloorError:
                continue

    def tile(self, layer):
        """A tile with one or two letters at one or two points each, some of them half a step apart."""
        first, second = layer.lattice.rows()
        while True:
            marks = {}
            for letter in ["a", "bb"][:self.draw.random.randint(1, 2)]:
                half = layer.point + first * Ratio(self.draw.random.randint(0, 1), 2) + second * Ratio(self.draw.random.randint(0, 1), 2)
                marks[letter] = [layer.point, half] if self.draw.random.randrange(2) == 0 else [half + self.point]
            try:
                return Tile(layer.lattice, marks)
            except FloorError:
                continue

    def floor(self, letters):
        """A floor of those of the three layers that do not meet earlier ones."""
        floor = Floor([])
        for letter, layer in zip(letters, (self.one, self.other, self.third)):
            try:
                floor = floor | Floor([(letter, layer)])
            except FloorError:
                continue
        return floor

    def numbers(self):
        a, b = self.number, self.point.x
        yield lambda: [a + b, a - b, a * b, b // a, b % a, 5 - b, 2 * b, 7 // a, 5 % a, -b, abs(b), a ** 3, b.over(a)]
        yield lambda: [a < b, a <= b, a > b, a >= b, a == b, b < 2, b == b.floor(), b.ceiling(), b.sign(), str(b)]
        yield lambda: [ascending([b, a, 3, b, self.point.y, Ratio(3)]), least([a, b]), greatest([a, b, 1])]
        points = [self.point, self.beside, self.one.point, Point(b, 0), self.other.point, self.point, Point(b, -1)]
        yield lambda: [ascending_points(points), ascending_points(points + window_points(self.other, 2))]
        yield lambda: [cross(points[0], points[1]), value_at(Form(a, b), points[1]), -points[1], points[0] - points[1], 3 * points[0]]

    def lattices(self):
        first, second, third = [layer.lattice for layer in (self.one, self.other, self.third)]
        yield lambda: [first & second, first + second, first * self.number, -2 * second, first.dual(), first.rows(), first.tests()]
        yield lambda: [first.rest(self.point), first.steps(self.point), first.order(self.point), self.point in first]
        yield lambda: [self.part <= first, first <= self.part, first == second, first.index_of(self.part), second.moved(self.motion)]
        yield lambda: [lines_of(first, second), lines_of(self.part, first), indices(first, self.motion)]
        yield lambda: in_any_order(woven(first, second, third)) + in_any_order(woven(first, self.part, second))
        for number in (1, 4, 6):
            yield lambda number=number: in_any_order(sublattices(first, number)) + in_any_order(superlattices(second, number))
            yield lambda number=number: in_any_order(partners(first, self.part, number)) + [count_partners(first, self.part, number)]
        yield lambda: in_any_order(complements(self.part, self.part * 2, first))
        yield lambda: in_any_order(complements(first, self.part, first * Ratio(1, 2)))

    def layers(self):
        one, other, third = self.one, self.other, self.third
        yield lambda: [one & other, one + other, one - other, one * self.number, -one, one <= other, self.parts[0] <= one]
        yield lambda: [one.shifted(self.point), one.moved(self.motion), self.point in one, one.point in other, one == other]
        yield lambda: [fullest([one, other, third, one]), bar_of([one, other, third])]
        yield lambda: gather([one, other])
        yield lambda: gather([*self.parts, one])
        first, second = one.lattice.rows()
        stretches = Stretches(Layer(first * Ratio(1, 2), one.lattice), Layer(first * Ratio(1, self.many) + second * Ratio(1, 2), self.part))
        yield lambda: [stretches.period, stretches.wins, stretches.levels, stretches.first_win(), stretches.room(5), stretches.meeting(7)]

    def motions(self):
        ground, motion, turned = self.ground, self.motion, self.turned
        yield lambda: [motion * turned, ~motion, motion(self.point), motion.power(-3), motion.factor(), motion.straight()]
        yield lambda: [motion.stretch(ground), turned.stretch(ground), turned.kind(ground), motion.kept(), turned.kept()]
        yield lambda: [turned.order(), motion.order(), (shifting(self.point) * stretching(-1)).order(), shifting(self.point).kind(ground)]
        yield lambda: [mirror(ground, self.beside), turn(ground, self.beside), turn_index(ground, self.beside)]
        yield lambda: [direction(ground, turned), direction(ground, motion), turns_of(ground, 5), turns_of(ground, 6), indices_to(ground, 12)]
        yield lambda: least_turn(ground, self.line, self.next_line)
        yield lambda: least_turn(ground, self.next_line, self.line)

    def measures(self):
        ground, one, other = self.ground, self.one, self.other
        yield lambda: [nearest(ground, one, self.point), distance(ground, one, self.point), least_shifts(ground, one, other)]
        yield lambda: [gap(ground, [one, other], [self.third]), differences(one, other), holes(ground, one.lattice)]
        yield lambda: [clearance(ground, one, other), clearance(ground, *self.parts[:1], one)]
        reach = holes(ground, one.lattice)[0] * Ratio(9, 2)
        yield lambda: [within(ground, one, self.point, reach), within(ground, one, one.point, reach, most=9)]

    def tiles(self):
        ground, one, other = self.ground, self.tile(self.one), self.tile(self.other)
        image = one.moved(self.turned)
        yield lambda: [one, image, one == image, one.letter_at(self.one.point), one.layers_of("a")]
        yield lambda: in_any_order(own_motions(ground, one)) + in_any_order(own_motions(ground, image))
        yield lambda: [centres(ground, one), centres(ground, image)]
        yield lambda: in_any_order(common_motions(ground, one, other)) + in_any_order(common_motions(ground, image, image))

    def sets(self):
        whole, parted = Places([self.one]), Places(self.parts)
        mixed = Places([self.other, self.third]) ^ whole
        some = Places(self.parts[:3])
        yield lambda: [whole, parted, mixed, whole - some, (whole ^ mixed) & some, mixed.shifted(self.point), mixed.moved(self.motion)]
        yield lambda: [whole == parted, parted.inside(whole), whole.inside(some), mixed == whole, (mixed & whole).inside(whole)]
        yield lambda: [whole - some == Places(self.parts[3:]), mixed - parted == mixed - whole, some.inside(mixed), self.point in mixed]
        yield lambda: [covers(self.parts, self.one), covers(self.parts[1:], self.one), covers(self.parts[:2] + [self.other], self.one)]
        yield lambda: [window_points(self.other, 2), covers([self.one], self.other)]
        first, second = self.one.lattice.rows()
        low, high = self.point.y, self.point.y + second.y * 2 + 1
        window = Window(self.point.x, self.point.x + first.x * 2, low, high)
        yield lambda: [count_in(places, window) for places in (whole, parted, mixed, some)]
        yield lambda: in_any_order(spots(self.other, Floor([("a", self.one)]), Window(0, first.x * Ratio(1, 2), 0, second.y)))
        floor, beside = self.floor(["a", "b", "c"]), self.floor(["c", "b", "b"])
        yield lambda: [meetings(floor, beside), floor & beside, floor == floor.moved(self.turned), floor.thick_of("b")]
        yield lambda: best_shifts(floor, beside, {("a", "b"): 3, ("a", "c"): -1, ("c", "c"): 2})
        yield from self.corridors(whole, mixed, first, second)

    def corridors(self, whole, mixed, first, second):
        flat = Corridor(first, second, Ratio(-1, 3), Ratio(5, 2))
        slanted = Corridor(first * 2 + second, second * 3 - first, 0, self.number)
        for corridor in (flat, slanted):
            yield lambda corridor=corridor: [corridor.share(whole), corridor.gaps(self.one), corridor.step_of(self.point)]
            yield lambda corridor=corridor: [corridor.amount(mixed, 0, self.number), corridor.next_from(whole, self.number)]
            yield lambda corridor=corridor: [corridor.kth(whole, -2, 7), corridor.kth(mixed, 0, 1), self.point in corridor]

    def answers(self):
        for kind in (self.numbers, self.lattices, self.layers, self.motions, self.measures, self.tiles, self.sets):
            for question in kind():
                yield f"{kind.__name__} {asked(question)}"


def digests():
    """For each size a digest of all answers."""
    found = {}
    for index, size in enumerate(ROUNDS):
        draw, text = Draw(210 + index), hashlib.sha256()
        for _ in range(ROUNDS[size]):
            for answer in Questions(draw, size).answers():
                text.update(answer.encode())
        found[size] = text.hexdigest()[:32]
    return found


class SameAnswersTest(unittest.TestCase):

    def test_digests(self):
        self.assertEqual(digests(), DIGESTS)


if __name__ == "__main__":
    unittest.main()
