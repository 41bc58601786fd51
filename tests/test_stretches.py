"""[25], [26], [58]: stretches."""

import itertools
import time
import unittest

from overfloors.errors import BadNumber, TooMany
from overfloors.lattices import Lattice
from overfloors.layers import Layer
from overfloors.points import Point
from overfloors.ratios import Ratio
from overfloors.stretches import Stretches
from overfloors.toldback import superlattices
from drawn import Draw, HUNDRED, no_counts

Z = Lattice.square(1)
ORIGIN = Point(0, 0)
SLANTED = Lattice([Point(2, 1), Point(0, 3)])
FAR = (10 ** 60, 10 ** 60 + 1, 10 ** 60 + 7, HUNDRED - 1, 6 ** 90, 2 ** 300 + 5)


def depth(one, other):
    """The least n from 1 on with n * (L + K) within L."""
    joint = one.lattice + other.lattice
    return next(number for number in itertools.count(1) if joint * number <= one.lattice)


def longest(one, other):
    """The least common multiple that [26] speaks of."""
    return next(number for number in itertools.count(1)
                if number % depth(one, other) == 0 and other.point * number in one.lattice)


def pairs(seed=1, many=60):
    """Pairs of layers whose least common multiple is small."""
    draw = Draw(seed)
    found = []
    for _ in range(many):
        one = Layer(draw.whole_point(6), draw.narrow_lattice(draw.random.choice((1, 2, 3, 4, 6, 8, 12))))
        other = Layer(draw.whole_point(6), draw.narrow_lattice(draw.random.choice((1, 2, 3, 4, 6))))
        found.append((one, other))
    for _ in range(many // 2):
        lattice = draw.lattice(5)
        u, v = lattice.rows()
        wider = superlattices(lattice, draw.random.choice((1, 2, 3, 4, 6)))
        many_times = Ratio(draw.integer(5) * 2 + 1, draw.random.randint(1, 4))
        point = u * Ratio(draw.integer(8), draw.random.choice((1, 2, 3, 4))) + v * Ratio(draw.integer(8), 3)
        other = Layer(point, wider[0] * draw.random.randint(1, 3))
        found.append((Layer(other.point * many_times, lattice), other))
    for _ in range(many // 2):
        lattice = draw.narrow_lattice(draw.random.choice((2, 3, 5, 6)))
        other = Layer(Point(Ratio(draw.integer(9), 4), Ratio(draw.integer(9), 6)), lattice)
        found.append((Layer(other.point * draw.random.randint(1, 6), draw.narrow_lattice(6)), other))
    return found


class Base(unittest.TestCase):

    def meets(self, one, other, number):
        return one & other * number is not None


class MadeTest(Base):

    def test_example(self):
        one, other = Layer(Point(1, 0), Lattice.oblong(2, 1)), Layer(Point(1, 0), Lattice.oblong(4, 1))
        told = Stretches(one, other)
        self.assertEqual((told.period, told.wins, told.levels), (2, [1], [(1, Lattice.oblong(2, 1))]))
        self.assertEqual((told.first_win(), told.room(3), told.meeting(2)), (1, 36, None))
        self.assertEqual(told.meeting(3), one & other * 3)

    def test_attributes(self):
        for one, other in pairs():
            told = Stretches(other=other, one=one)
            self.assertEqual((told.one, told.other), (one, other))
            self.assertIs(type(told.period), int)
            self.assertIs(type(told.wins), list)
            self.assertIs(type(told.levels), list)
            self.assertTrue(all(type(level) is tuple and len(level) == 2 for level in told.levels))

    def test_equal_only_to_itself(self):
        layer = Layer(ORIGIN, Z)
        told = Stretches(layer, layer)
        self.assertTrue(told == told)
        self.assertFalse(told == Stretches(layer, layer))

    def test_least_period_and_wins(self):
        periods = set()
        for one, other in pairs():
            told = Stretches(one, other)
            length = longest(one, other)
            held = [self.meets(one, other, number) for number in range(1, 2 * length + 1)]
            period = next(size for size in itertools.count(1)
                          if all(held[at] == held[(at + size) % length] for at in range(length)))
            self.assertEqual(told.period, period)
            self.assertEqual(told.wins, [number for number in range(1, period + 1) if held[number - 1]])
            periods.add((told.period, len(told.wins)))
        self.assertGreater(len(periods), 12)

    def test_never_and_always(self):
        layer = Layer(Point(1, 2), SLANTED)
        always = Stretches(layer, Layer(Point(5, 5), Z))
        self.assertEqual(always.wins[0], 1)
        whole = Stretches(Layer(ORIGIN, Lattice.square(3)), Layer(ORIGIN, Z))
        self.assertEqual((whole.period, whole.wins), (1, [1]))
        self.assertEqual([divisor for divisor, _ in whole.levels], [1, 3])
        never = Stretches(Layer(Point(Ratio(1, 2), 0), Z), Layer(ORIGIN, Lattice.square(2)))
        self.assertEqual((never.period, never.wins, never.first_win()), (1, [], None))
        never = Stretches(Layer(Point(Ratio(1, 2), 0), Z), Layer(Point(Ratio(1, 3), 0), Z))
        self.assertEqual((never.period, never.wins, never.first_win()), (1, [], None))
        self.assertIs(never.meets(HUNDRED), False)

    def test_levels(self):
        sizes = set()
        for one, other in pairs():
            told = Stretches(one, other)
            number = depth(one, other)
            divisors = [divisor for divisor in range(1, number + 1) if number % divisor == 0]
            self.assertEqual([divisor for divisor, _ in told.levels], divisors)
            for divisor, lattice in told.levels:
                self.assertIs(type(divisor), int)
                self.assertIs(type(lattice), Lattice)
                self.assertEqual(lattice, one.lattice + other.lattice * divisor)
            self.assertEqual(told.levels[-1][1], one.lattice)
            sizes.add(len(divisors))
        self.assertGreaterEqual(len(sizes), 4)

    def test_last_that_is_let(self):
        """A depth and an order, and whether their least common multiple is at most 1000."""
        for width, order, good in ((1000, 1, True), (1, 1000, True), (8, 125, True), (500, 1000, True), (1000, 1000, True),
                                   (125, 8, True), (999, 999, True), (1001, 1, False), (1, 1001, False), (7, 143, False),
                                   (1000, 7, False), (HUNDRED, 1, False), (1, HUNDRED, False), (13, 77, False),
                                   (2 ** 10, 1, False), (32, 32, True), (40, 24, True), (600, 400, False)):
            one = Layer(ORIGIN, Lattice.square(1))
            other = Layer(Point(0, Ratio(1, order)), Lattice.oblong(Ratio(1, width), 1))
            if good:
                told = Stretches(one, other)
                self.assertEqual(told.levels[-1][0], width)
                self.assertTrue(told.meets(order))
            else:
                with self.assertRaises(TooMany) as held:
                    Stretches(one, other)
                self.assertEqual(held.exception.most, 1000)

    def test_depth_by_both_rows(self):
        one = Layer(ORIGIN, Z)
        for width, height, expected in ((4, 6, 12), (1, 5, 5), (5, 1, 5), (9, 12, 36)):
            told = Stretches(one, Layer(ORIGIN, Lattice.oblong(Ratio(1, width), Ratio(1, height))))
            self.assertEqual(told.levels[-1][0], expected)
        told = Stretches(one, Layer(ORIGIN, Lattice([Point(Ratio(1, 2), Ratio(1, 3)), Point(0, 1)])))
        self.assertEqual(told.levels[-1][0], 6)

    def test_operands_stay(self):
        one, other = Layer(Point(1, 2), SLANTED), Layer(Point(1, 0), Z)
        told = Stretches(one, other)
        self.assertEqual((told.meeting(5) is None, told.room(5) is None), (not told.meets(5),) * 2)
        self.assertEqual((one, other), (Layer(Point(1, 2), SLANTED), Layer(Point(1, 0), Z)))

    def test_own_answers(self):
        """What is done to the lists that an object shows does not change what it answers."""
        told = Stretches(Layer(Point(1, 0), Lattice.oblong(2, 1)), Layer(Point(1, 0), Lattice.oblong(4, 1)))
        told.wins.append(2)
        told.levels.clear()
        self.assertEqual((told.meets(1), told.meets(2), told.room(2), told.first_win()), (True, False, None, 1))
        other = Stretches(Layer(Point(1, 0), Lattice.oblong(2, 1)), Layer(Point(1, 0), Lattice.oblong(4, 1)))
        self.assertEqual((other.wins, other.levels), ([1], [(1, Lattice.oblong(2, 1))]))


class MeetingTest(Base):

    def test_by_the_common_layer(self):
        for one, other in pairs():
            told = Stretches(one, other)
            for number in [*range(1, 2 * told.period + 3), *FAR, 10 ** 59 * told.period, 10 ** 59 * told.period + 1]:
                expected = one & other * number
                self.assertIs(told.meets(number), expected is not None)
                self.assertEqual(told.meeting(number), expected)
                if expected is None:
                    self.assertIsNone(told.room(number))
                else:
                    self.assertIs(type(told.room(number)), Ratio)
                    self.assertEqual(told.room(number), expected.lattice.cell)

    def test_first_win(self):
        found = set()
        for one, other in pairs():
            told = Stretches(one, other)
            length = longest(one, other)
            met = [number for number in range(1, length + 1) if self.meets(one, other, number)]
            self.assertEqual(told.first_win(), met[0] if met else None)
            found.add(told.first_win())
        self.assertTrue(None in found and len(found) > 4, found)

    def test_late_win(self):
        one = Layer(Point(Ratio(999, 1000), 0), Z)
        other = Layer(Point(Ratio(1, 1000), 0), Z)
        told = Stretches(one, other)
        self.assertEqual((told.period, told.wins, told.first_win()), (1000, [999], 999))
        self.assertIs(told.meets(number=10 ** 60 + 999), True)
        self.assertIs(told.meets(10 ** 60 + 998), False)
        self.assertEqual(told.meeting(number=1999), one & other * 1999)
        self.assertEqual(told.room(number=1999), 1999 * 1999)

    def test_wins_at_the_period_itself(self):
        told = Stretches(Layer(ORIGIN, Z), Layer(Point(Ratio(1, 6), 0), Lattice.square(1)))
        self.assertEqual((told.period, told.wins, told.first_win()), (6, [6], 6))
        self.assertEqual([told.meets(number) for number in (5, 6, 7, 12, 6 * 10 ** 60)], [False, True, False, True, True])

    def test_wrong_numbers(self):
        wins = Stretches(Layer(Point(1, 0), Lattice.oblong(2, 1)), Layer(Point(1, 0), Lattice.oblong(4, 1)))
        never = Stretches(Layer(Point(Ratio(1, 2), 0), Z), Layer(ORIGIN, Lattice.square(2)))
        for told in (wins, never):
            for value in no_counts():
                for call in (told.meets, told.meeting, told.room):
                    with self.assertRaises(BadNumber) as held:
                        call(value)
                    self.assertIs(held.exception.value, value)


class LimitsTest(Base):
    """[80]: layers with numbers of many figures."""

    def test_three_hundred_figures(self):
        draw = Draw(2)
        size = 10 ** 300 - 1
        begun = time.monotonic()
        lattice = draw.lattice(size)
        u, v = lattice.rows()
        other = Layer(u * Ratio(draw.integer(size), 9) + v * Ratio(draw.integer(size), 7), superlattices(lattice, 8)[3])
        one = Layer(other.point * 5, lattice)
        told = Stretches(one, other)
        self.assertTrue(told.meets(5) and told.meets(5 + told.period * 10 ** 120))
        number = 5 + told.period * 10 ** 60
        common = told.meeting(number)
        self.assertEqual(told.room(number), common.lattice.cell)
        with self.assertRaises(TooMany):
            Stretches(one, draw.layer(size))
        self.assertLess(time.monotonic() - begun, 20)


if __name__ == "__main__":
    unittest.main()
