"""[27], [29], [59]: motions."""

import itertools
import math
import time
import unittest
from fractions import Fraction

from overfloors.errors import BadNumber, Flat
from overfloors.grounds import Ground
from overfloors.lattices import Lattice
from overfloors.layers import Layer
from overfloors.motions import Motion, indices, shifting, stretching
from overfloors.points import Form, Point
from overfloors.ratios import Ratio
from drawn import Draw, HUNDRED, Other, fraction, members, no_integers, pair

STILL = [[1, 0], [0, 1]]
FIFTHS = [[Ratio(3, 5), Ratio(-4, 5)], [Ratio(4, 5), Ratio(3, 5)]]
Z = Lattice.square(1)


SQUARES, TRIANGLES = Ground(1, 0, 1), Ground(1, 1, 1)
GROUNDS = [SQUARES, TRIANGLES, Ground(2, 0, 2), Ground(1, 1, 6), Ground(3, -2, 5), Ground(1, -1, 1), Ground(2, 2, 7),
           Ground(1, 0, 5), Ground(10 ** 29, 10 ** 20 + 1, 10 ** 28)]


def mirrored(ground, direction, point):
    """The image in the mirror of a direction, by [28]."""
    return direction * ground.pair(direction, point).over(ground.measure(direction)) - point


def told_by(image, shift=None):
    """The motion of a function on points that keeps (0, 0) and sums."""
    first, second = image(Point(1, 0)), image(Point(0, 1))
    return Motion([[first.x, second.x], [first.y, second.y]], shift)


def mirror(ground, direction, shift=None):
    return told_by(lambda point: mirrored(ground, direction, point), shift)


def turn(ground, direction, shift=None):
    return told_by(lambda point: mirrored(ground, direction, mirrored(ground, Point(1, 0), point)), shift)


def directions():
    return [Point(x, y) for x, y in ((1, 0), (0, 1), (1, 1), (2, 1), (-1, 2), (3, -1), (5, 7), (-2, -6), (HUNDRED, 3))]


def motions(seed, many=12):
    draw = Draw(seed)
    found = [Motion(STILL), Motion([[0, -1], [1, 0]], Point(1, 0)), Motion(FIFTHS, Point(1, 2)), stretching(Ratio(-2, 3)),
             Motion([[1, 0], [0, -1]], Point(Ratio(1, 2), 0)), shifting(Point(3, Ratio(1, 4))), Motion([[1, 1], [0, 1]])]
    for size in [4] * many + [HUNDRED] * 2:
        table = [[draw.ratio(size), draw.ratio(size)], [draw.ratio(size), draw.ratio(size)]]
        if table[0][0] * table[1][1] != table[0][1] * table[1][0]:
            found.append(Motion(table, draw.point(size)))
    return found


def image_of(motion, x, y):
    """The image of (x, y), told by Python's fractions."""
    (a, b), (c, d) = [[fraction(number) for number in row] for row in motion.table]
    e, f = pair(motion.shift)
    return a * x + b * y + e, c * x + d * y + f


class Base(unittest.TestCase):

    def assertRatio(self, told, expected):
        self.assertIs(type(told), Ratio)
        self.assertEqual(told, expected)

    def assertMotion(self, motion, table, shift):
        self.assertIs(type(motion), Motion)
        self.assertIs(type(motion.table), tuple)
        self.assertEqual([type(row) for row in motion.table], [tuple, tuple])
        for told, expected in zip(motion.table, table):
            self.assertEqual(len(told), 2)
            for number, other in zip(told, expected):
                self.assertRatio(number, other)
        self.assertIs(type(motion.shift), Point)
        self.assertEqual(motion.shift, shift)


class MadeTest(Base):

    def test_attributes(self):
        self.assertMotion(Motion([[1, 2], [3, 4]], Point(5, 6)), [[1, 2], [3, 4]], Point(5, 6))
        self.assertMotion(Motion([[1, 2], [3, 4]]), [[1, 2], [3, 4]], Point(0, 0))
        self.assertMotion(Motion([[1, 2], [3, 4]], None), [[1, 2], [3, 4]], Point(0, 0))
        self.assertMotion(Motion(((Ratio(1, 2), 0), (0, Ratio(2, 3)))), [[Ratio(1, 2), 0], [0, Ratio(2, 3)]], Point(0, 0))
        self.assertMotion(Motion(shift=Point(5, 6), table=[(1, 2), (3, 4)]), [[1, 2], [3, 4]], Point(5, 6))

    def test_copies(self):
        table = [[1, 2], [3, 4]]
        motion = Motion(table)
        self.assertEqual(table, [[1, 2], [3, 4]])
        table[0][0] = 7
        table[1] = [8, 9]
        self.assertMotion(motion, [[1, 2], [3, 4]], Point(0, 0))

    def test_flat(self):
        for table in ([[0, 0], [0, 0]], [[1, 2], [2, 4]], [[1, 0], [1, 0]], [[0, 0], [5, 7]], [[Ratio(1, 2), 1], [1, 2]],
                      [[HUNDRED, 1], [HUNDRED * HUNDRED, HUNDRED]]):
            for shift in (None, Point(1, 2)):
                with self.assertRaises(Flat):
                    Motion(table, shift)
        for number in (0, Ratio(0)):
            with self.assertRaises(Flat):
                stretching(number)

    def test_equal(self):
        table, shift = [[1, 2], [3, 4]], Point(5, 6)
        one = Motion(table, shift)
        self.assertIs(one == Motion(((Ratio(1), 2), [3, Ratio(8, 2)]), Point(5, 6)), True)
        self.assertIs(one != Motion(table, Point(5, 6)), False)
        self.assertIs(Motion(table) == Motion(table, Point(0, 0)), True)
        for other in (Motion(table), Motion(table, Point(6, 5)), Motion(table, Point(5, 7)), Motion([[1, 3], [2, 4]], shift),
                      Motion([[2, 2], [3, 4]], shift), Motion([[1, 3], [3, 4]], shift), Motion([[1, 2], [4, 4]], shift),
                      Motion([[1, 2], [3, 5]], shift)):
            self.assertIs(one == other, False)
            self.assertIs(one != other, True)
        for value in (None, True, 1, "a", table, one.table, shift, Lattice.square(1), Layer(shift, Z), Form(1, 2), Other()):
            self.assertIs(one == value, False)
            self.assertIs(value == one, False)


class ImageTest(Base):

    def test_example(self):
        motion = Motion([[0, -1], [1, 0]], Point(1, 0))
        self.assertEqual(motion(Point(2, 0)), Point(1, 2))
        self.assertEqual(motion.order(), 4)
        self.assertEqual(motion.kept(), Point(Ratio(1, 2), Ratio(1, 2)))
        self.assertEqual((motion.kind(SQUARES), motion.kind(TRIANGLES)), ("turn", None))

    def test_images(self):
        draw = Draw(1)
        for motion in motions(2):
            for point in (draw.point(5), draw.point(HUNDRED), Point(0, 0), Point(1, 0), Point(0, 1)):
                told = motion(point=point)
                self.assertIs(type(told), Point)
                self.assertEqual(pair(told), image_of(motion, *pair(point)))

    def test_one_behind_the_other(self):
        draw = Draw(3)
        for one, other in itertools.product(motions(4), motions(5, 4)):
            both = one * other
            self.assertMotion(both, both.table, one(other(Point(0, 0))))
            for point in (draw.point(5), Point(0, 0), Point(1, 0), Point(0, 1)):
                self.assertEqual(both(point), one(other(point)))

    def test_order_of_both(self):
        quarter, step = Motion([[0, -1], [1, 0]]), shifting(Point(1, 0))
        self.assertEqual((quarter * step)(Point(0, 0)), Point(0, 1))
        self.assertEqual((step * quarter)(Point(0, 0)), Point(1, 0))

    def test_undone(self):
        draw = Draw(6)
        for motion in motions(7):
            back = ~motion
            self.assertMotion(back, back.table, back.shift)
            self.assertMotion(back * motion, STILL, Point(0, 0))
            self.assertMotion(motion * back, STILL, Point(0, 0))
            point = draw.point(9)
            self.assertEqual(back(motion(point)), point)
            self.assertEqual(~back, motion)

    def test_wrong_operands(self):
        motion = Motion(FIFTHS)
        for value in (None, 2, Ratio(1, 2), Point(1, 2), "a", Z):
            with self.assertRaises(TypeError):
                motion * value
            with self.assertRaises(TypeError):
                value * motion

    def test_factor(self):
        for motion in motions(8):
            (a, b), (c, d) = [[fraction(number) for number in row] for row in motion.table]
            self.assertIs(type(motion.factor()), Ratio)
            self.assertEqual(fraction(motion.factor()), a * d - b * c)
        self.assertRatio(Motion([[1, 2], [3, 4]], Point(5, 6)).factor(), -2)
        self.assertRatio(stretching(Ratio(-2, 3)).factor(), Ratio(4, 9))

    def test_straight(self):
        for motion in motions(9):
            self.assertMotion(motion.straight(), motion.table, Point(0, 0))

    def test_shifting_and_stretching(self):
        draw = Draw(10)
        for point in (draw.point(9), Point(0, 0), draw.point(HUNDRED)):
            self.assertMotion(shifting(point=point), STILL, point)
            self.assertEqual(shifting(point)(Point(1, 2)), Point(1, 2) + point)
        for number in (1, -1, 5, Ratio(2, 3), -HUNDRED):
            self.assertMotion(stretching(number=number), [[number, 0], [0, number]], Point(0, 0))

    def test_motions_stay(self):
        one, other = Motion(FIFTHS, Point(1, 2)), Motion([[1, 1], [0, 1]], Point(3, 4))
        told = [one * other, ~one, one.power(5), one.factor(), one.straight(), one.stretch(SQUARES), one.kind(SQUARES),
                one.kept(), one.order(), one == other, one(Point(7, 8)), indices(Z, one)]
        self.assertEqual(len(told), 12)
        self.assertMotion(one, FIFTHS, Point(1, 2))
        self.assertMotion(other, [[1, 1], [0, 1]], Point(3, 4))


class PowerTest(Base):

    def test_small_powers(self):
        for motion in motions(20):
            done, undone = Motion(STILL), Motion(STILL)
            for number in range(0, 8):
                self.assertMotion(motion.power(number), done.table, done.shift)
                self.assertMotion(motion.power(-number), undone.table, undone.shift)
                done, undone = done * motion, undone * ~motion

    def test_all_powers(self):
        slant = Motion([[1, 1], [0, 1]], Point(0, 1))
        sixth = Motion([[0, -1], [1, 1]], Point(2, 3))
        self.assertEqual(sixth.order(), 6)
        for number in range(-1000, 1001):
            shift = Point(number * (number - 1) // 2, number)
            self.assertMotion(slant.power(number), [[1, number], [0, 1]], shift)
            self.assertEqual(sixth.power(number), sixth.power(number % 6))
            self.assertEqual(shifting(Point(1, Ratio(-1, 3))).power(number), shifting(Point(number, Ratio(-number, 3))))
        self.assertEqual(stretching(2).power(number=1000), stretching(2 ** 1000))
        self.assertEqual(stretching(2).power(-1000), stretching(Ratio(1, 2 ** 1000)))

    def test_sums_of_numbers(self):
        motion = Motion(FIFTHS, Point(1, 2))
        for one, other in ((3, 5), (-3, 5), (100, -250), (-7, -11), (0, 9), (33, 31)):
            self.assertEqual(motion.power(one) * motion.power(other), motion.power(one + other))

    def test_wrong_numbers(self):
        motion = Motion(FIFTHS, Point(1, 2))
        for value in no_integers() + [1001, -1001, 10 ** 6, HUNDRED, -HUNDRED, Ratio(1), Ratio(1, 2), motion]:
            with self.assertRaises(BadNumber) as held:
                motion.power(value)
            self.assertIs(held.exception.value, value)
        still = Motion(STILL)
        self.assertEqual((still.power(1000), still.power(-1000)), (still, still))


class StretchTest(Base):

    def test_by_the_definition(self):
        """The measure of each difference of two points becomes so many times as great."""
        draw = Draw(30)
        kinds = set()
        for ground in GROUNDS:
            for motion in [*motions(31), turn(ground, Point(2, 1)) * stretching(Ratio(3, 2)), mirror(ground, Point(1, 3)),
                           turn(ground, Point(5, -1), Point(1, 7)), stretching(-3) * mirror(ground, Point(2, 7))]:
                told = motion.stretch(ground)
                pairs = [(draw.point(5000), draw.point(5000)) for _ in range(4)]
                pairs += [(Point(1, 0), Point(0, 0)), (Point(0, 1), Point(0, 0)), (Point(1, 0), Point(0, 1))]
                many = {str(ground.measure(motion(one) - motion(other)).over(ground.measure(one - other)))
                        for one, other in pairs}
                kinds.add(told is None)
                if told is None:
                    self.assertGreater(len(many), 1)
                else:
                    self.assertIs(type(told), Ratio)
                    self.assertEqual(many, {str(told)})
        self.assertEqual(kinds, {True, False})

    def test_examples(self):
        self.assertRatio(stretching(3).stretch(TRIANGLES), 9)
        self.assertRatio(stretching(Ratio(-2, 3)).stretch(ground=SQUARES), Ratio(4, 9))
        self.assertRatio(Motion([[1, -1], [1, 1]], Point(5, 5)).stretch(SQUARES), 2)
        self.assertRatio(Motion([[0, -1], [1, 1]]).stretch(TRIANGLES), 1)
        self.assertIsNone(Motion([[0, -1], [1, 1]]).stretch(SQUARES))
        self.assertIsNone(Motion([[0, -1], [1, 0]]).stretch(TRIANGLES))
        self.assertIsNone(Motion([[1, 1], [0, 1]]).stretch(SQUARES))
        self.assertIsNone(Motion([[1, 0], [0, 2]]).stretch(SQUARES))
        # The first step alone, or the two steps alone, are not enough.
        self.assertIsNone(Motion([[1, 0], [0, -1]]).stretch(TRIANGLES))
        self.assertRatio(Motion([[1, 0], [0, -1]]).stretch(Ground(1, 0, 5)), 1)
        self.assertIsNone(Motion([[0, 1], [1, 0]]).stretch(Ground(1, 0, 5)))
        self.assertRatio(Motion([[0, -5], [1, 0]]).stretch(Ground(1, 0, 5)), 5)

    def test_great_grounds(self):
        ground = Ground(10 ** 30 - 1, 10 ** 29 + 7, 10 ** 30 - 11)
        for direction in directions():
            self.assertRatio(turn(ground, direction, Point(1, 1)).stretch(ground), 1)
            self.assertRatio((mirror(ground, direction) * stretching(HUNDRED)).stretch(ground), HUNDRED * HUNDRED)
            self.assertIsNone((mirror(ground, direction) * Motion([[1, 0], [0, 2]])).stretch(ground))


class KindTest(Base):

    def test_rest_and_shift(self):
        for ground in GROUNDS:
            self.assertEqual(Motion(STILL).kind(ground), "rest")
            for point in (Point(1, 0), Point(0, Ratio(-1, 7)), Point(HUNDRED, 3)):
                self.assertEqual(shifting(point).kind(ground=ground), "shift")

    def test_turns(self):
        draw = Draw(40)
        for ground in GROUNDS:
            for direction in directions():
                for shift in (None, Point(1, 0), draw.point(9)):
                    motion = turn(ground, direction, shift)
                    if motion.straight() != Motion(STILL):
                        self.assertEqual(motion.kind(ground), "turn")
                        self.assertEqual(motion(motion.kept()), motion.kept())
            self.assertEqual(stretching(-1).kind(ground), "turn")

    def test_mirrors_and_glides(self):
        draw = Draw(41)
        kinds = set()
        for ground in GROUNDS:
            for direction in directions():
                straight = mirror(ground, direction)
                self.assertEqual(straight.kind(ground), "mirror")
                point = draw.point(9)
                across = point - straight(point)
                self.assertEqual(mirror(ground, direction, across).kind(ground), "mirror")
                for many in (1, Ratio(-1, 3)):
                    self.assertEqual(mirror(ground, direction, direction * many).kind(ground), "glide")
                    self.assertEqual(mirror(ground, direction, across + direction * many).kind(ground), "glide")
                motion = mirror(ground, direction, draw.point(5))
                # The point halfway from (0, 0) to its image is on the only line that may be kept.
                half = motion.shift * Ratio(1, 2)
                self.assertEqual(motion.kind(ground), "mirror" if motion(half) == half else "glide")
                kinds.add(motion.kind(ground))
        self.assertIn("glide", kinds)

    def test_no_kept_lengths(self):
        for ground in GROUNDS:
            for motion in (stretching(2), stretching(Ratio(1, 2)), Motion([[1, 1], [0, 1]]), Motion([[2, 0], [0, Ratio(1, 2)]]),
                           turn(ground, Point(2, 1)) * stretching(3), Motion([[1, 0], [0, 2]], Point(1, 1))):
                self.assertIsNone(motion.kind(ground))

    def test_by_the_ground(self):
        sixth = Motion([[0, -1], [1, 1]])
        self.assertEqual((sixth.kind(TRIANGLES), sixth.kind(SQUARES)), ("turn", None))
        flip = Motion([[0, 1], [1, 0]], Point(1, -1))
        self.assertEqual([flip.kind(ground) for ground in (SQUARES, TRIANGLES, Ground(1, 0, 5))], ["mirror", "mirror", None])
        flip = Motion([[0, 1], [1, 0]], Point(1, 0))
        self.assertEqual(flip.kind(SQUARES), "glide")


class KeptTest(Base):

    def test_kept(self):
        draw = Draw(50)
        for motion in motions(51, 30):
            told = motion.kept()
            (a, b), (c, d) = [[fraction(number) for number in row] for row in motion.table]
            if (1 - a) * (1 - d) - b * c == 0:
                self.assertIsNone(told)
            else:
                self.assertIs(type(told), Point)
                self.assertEqual(motion(told), told)
            point = draw.point(9)
            if told is not None and point != told:
                self.assertNotEqual(motion(point), point)

    def test_none_or_more_than_one(self):
        for motion in (Motion(STILL), shifting(Point(1, 0)), Motion([[1, 0], [0, -1]]), Motion([[1, 0], [0, -1]], Point(1, 0)),
                       Motion([[1, 1], [0, 1]]), Motion([[1, 0], [0, 5]], Point(0, 1)), Motion([[1, 0], [0, 5]], Point(1, 1)),
                       mirror(TRIANGLES, Point(2, 5), Point(1, 1))):
            self.assertIsNone(motion.kept())

    def test_only_one(self):
        self.assertEqual(stretching(2).kept(), Point(0, 0))
        self.assertEqual(Motion([[2, 0], [0, 2]], Point(1, -3)).kept(), Point(-1, 3))
        self.assertEqual(Motion([[-1, 0], [0, -1]], Point(1, 0)).kept(), Point(Ratio(1, 2), 0))
        self.assertEqual(Motion([[0, 1], [-2, 0]], Point(1, 1)).kept(), Point(Ratio(2, 3), Ratio(-1, 3)))
        self.assertEqual(Motion([[1, 2], [3, 4]], Point(6, 12)).kept(), Point(-1, -3))


class OrderTest(Base):

    def brute(self, motion):
        done = motion
        for number in range(1, 25):
            if done == Motion(STILL):
                return number
            done = motion * done
        return None

    def test_all_orders(self):
        tables = {1: STILL, 2: [[-1, 0], [0, -1]], 3: [[0, -1], [1, -1]], 4: [[0, -1], [1, 0]], 6: [[0, -1], [1, 1]]}
        draw = Draw(60)
        for number, table in tables.items():
            self.assertEqual(Motion(table).order(), number)
            for change in motions(61, 4):
                self.assertEqual((change * Motion(table) * ~change).order(), number)
            if number > 1:
                self.assertEqual(Motion(table, draw.point(9)).order(), number)

    def test_mirrors_and_glides(self):
        for ground in GROUNDS:
            for direction in directions():
                self.assertEqual(mirror(ground, direction).order(), 2)
                self.assertIsNone(mirror(ground, direction, direction).order())
                point = Point(3, Ratio(1, 2))
                self.assertEqual(mirror(ground, direction, point - mirror(ground, direction)(point)).order(), 2)

    def test_no_order(self):
        for motion in (shifting(Point(1, 0)), stretching(2), Motion(FIFTHS), Motion([[1, 1], [0, 1]]), Motion([[2, 0], [0, 1]]),
                       Motion([[2, 1], [1, 1]]), Motion([[0, 1], [1, 0]], Point(1, 0)), Motion([[1, 0], [0, -1]], Point(1, 5)),
                       shifting(Point(Ratio(1, HUNDRED), 0)), Motion([[-1, 1], [0, -1]])):
            self.assertIsNone(motion.order())

    def test_small_tables(self):
        orders = set()
        for a, b, c, d in itertools.product(range(-2, 3), repeat=4):
            if a * d != b * c:
                for shift in (Point(0, 0), Point(1, 0), Point(1, 2)):
                    motion = Motion([[a, b], [c, d]], shift)
                    self.assertEqual(motion.order(), self.brute(motion))
                    orders.add(motion.order())
        self.assertEqual(orders, {None, 1, 2, 3, 4, 6})


class IndicesTest(Base):

    def test_examples(self):
        self.assertEqual(indices(Z, stretching(Ratio(2, 3))), (4, 9))
        self.assertEqual(indices(Z, Motion(FIFTHS)), (5, 5))
        told = indices(motion=Motion(FIFTHS, Point(Ratio(1, 2), 7)), lattice=Z)
        self.assertIs(type(told), tuple)
        self.assertEqual([type(number) for number in told], [int, int])
        self.assertEqual(told, (5, 5))

    def test_counting_places_in_a_box(self):
        draw = Draw(70)
        found = set()
        for _ in range(80):
            lattice = draw.narrow_lattice(draw.random.choice((1, 2, 3, 4, 6)))
            bottom = draw.random.choice((1, 1, 2, 3))
            table = [[Ratio(draw.integer(3), bottom) for _ in range(2)] for _ in range(2)]
            if table[0][0] * table[1][1] == table[0][1] * table[1][0]:
                continue
            motion = Motion(table, draw.point(5))
            image = lattice.moved(motion)
            # All places of both are whole once they are taken so many times.
            one, other = lattice * bottom, image * bottom
            size = math.lcm(*[each.order(Point(*point)) for each in (one, other) for point in ((1, 0), (0, 1))])
            if size > 400:
                continue
            first, second = members(one, size), members(other, size)
            common = len(first & second)
            expected = len(first) // common, len(second) // common
            self.assertEqual(indices(lattice, motion), expected)
            found.add(expected)
        self.assertGreater(len(found), 12)

    def test_turns_and_mirrors(self):
        """[29]: the least common bottom of the numbers that tell the motion in a base of the lattice."""
        draw = Draw(71)
        for ground in GROUNDS[:8]:
            for direction in directions():
                for lattice in (Z, draw.lattice(5)):
                    for motion in (turn(ground, direction), mirror(ground, direction, Point(1, 1))):
                        rows = lattice.rows()
                        numbers = [number for row in rows for number in lattice.steps(motion.straight()(row))]
                        expected = math.lcm(*[number.bottom for number in numbers])
                        self.assertEqual(indices(lattice, motion), (expected, expected))

    def test_mirrors_of_the_whole_floor(self):
        """[29]: what the index of the mirror in a whole direction without common divisor is."""
        for ground in GROUNDS[:8]:
            for x, y in itertools.product(range(-6, 7), range(1, 7)):
                if math.gcd(x, y) == 1:
                    measure = ground.a * x * x + ground.b * x * y + ground.c * y * y
                    common = math.gcd(measure, 2 * ground.a * x + ground.b * y, ground.b * x + 2 * ground.c * y)
                    expected = measure // common
                    self.assertEqual(indices(Z, mirror(ground, Point(x, y))), (expected, expected))

    def test_by_the_cells(self):
        draw = Draw(72)
        for motion in motions(73):
            lattice = draw.lattice(6)
            first, second = indices(lattice, motion)
            self.assertEqual(Fraction(first, second), abs(fraction(motion.factor())))
            back = indices(lattice.moved(motion), ~motion)
            self.assertEqual(back, (second, first))


class LimitsTest(Base):
    """[80]: motions with numbers of 600 figures."""

    def test_six_hundred_figures(self):
        draw = Draw(80)
        size = 10 ** 600 - 1
        begun = time.monotonic()
        motion = Motion([[draw.ratio(size), draw.ratio(size)], [draw.ratio(size), draw.ratio(size)]], draw.point(size))
        self.assertEqual(motion * ~motion, Motion(STILL))
        self.assertIsNone(motion.order())
        self.assertEqual(motion(motion.kept()), motion.kept())
        self.assertIsNone(motion.stretch(SQUARES))
        sixth = motion * Motion([[0, -1], [1, 1]]) * ~motion
        self.assertEqual((sixth.order(), sixth.power(-999)), (6, sixth.power(3)))
        lattice = draw.lattice(10 ** 300 - 1)
        first, second = indices(lattice, motion)
        self.assertEqual(abs(motion.factor()) * second, first)
        self.assertEqual(Layer(lattice.rows()[0] * Ratio(1, 2), lattice).moved(motion).moved(~motion).lattice, lattice)
        self.assertLess(time.monotonic() - begun, 20)


if __name__ == "__main__":
    unittest.main()
