"""[16] to [21], [56]: many layers, their bars, fullest choices and woven lattices."""

import itertools
import time
import unittest

from overfloors.errors import Apart, NoSuch, TooMany
from overfloors.lattices import Lattice
from overfloors.layers import Layer
from overfloors.many import Bar, bar_of, bars, fullest, gather, woven
from overfloors.points import Form, Point
from overfloors.ratios import Ratio
from drawn import Draw, HUNDRED, places

ORIGIN = Point(0, 0)
SMALL = (1, 2, 3, 4, 6, 12)
EVEN = Layer(ORIGIN, Lattice.oblong(2, 1))
THREE = [EVEN, Layer(ORIGIN, Lattice.oblong(1, 2)), Layer(Point(1, 0), Lattice([Point(1, 1), Point(0, 2)]))]


def lists(seed, many, indexes=SMALL, lengths=(1, 2, 3, 4, 5, 6, 7, 8)):
    """Lists of layers of whole points, each of which repeats itself after 12 steps."""
    draw = Draw(seed)
    return [[draw.narrow_layer(indexes) for _ in range(length)] for length in lengths for _ in range(many)]


def met_lists(seed, many):
    """Lists of layers that all go through one point."""
    draw = Draw(seed)
    found = []
    for length in range(1, 9):
        for _ in range(many):
            point = draw.whole_point(12)
            found.append([Layer(point, draw.narrow_lattice(draw.random.choice(SMALL))) for _ in range(length)])
    return found


def common_places(layers):
    return set.intersection(*[places(layer, 12) for layer in layers])


def first_apart(layers):
    """The numbers of the first two layers without a common point, else of the first three, else None."""
    held = [places(layer, 12) for layer in layers]
    for size in (2, 3):
        for numbers in itertools.combinations(range(len(layers)), size):
            if not set.intersection(*[held[number] for number in numbers]):
                return list(numbers)
    return None


def value_of(bar, layers):
    return sum([form(layers[number].point) for number, form in zip(bar.numbers, bar.forms)], Ratio(0)) % 1


class Base(unittest.TestCase):

    def assertBar(self, bar, layers):
        """The bar proves what it says, by [18] alone."""
        self.assertIs(type(bar), Bar)
        self.assertIs(type(bar.numbers), list)
        self.assertIs(type(bar.forms), list)
        self.assertIs(type(bar.value), Ratio)
        self.assertIn(len(bar.numbers), (2, 3))
        self.assertEqual(bar.numbers, sorted(set(bar.numbers)))
        self.assertEqual(len(bar.forms), len(bar.numbers))
        for number, form in zip(bar.numbers, bar.forms):
            self.assertIs(type(number), int)
            self.assertIs(type(form), Form)
            for row in layers[number].lattice.rows():
                self.assertTrue(form(row).whole())
        self.assertEqual(sum(bar.forms, Form(0, 0)), Form(0, 0))
        self.assertEqual(bar.value, value_of(bar, layers))
        self.assertTrue(0 < bar.value < 1)
        if len(bar.numbers) == 2:
            one, other = [layers[number] for number in bar.numbers]
            joint, difference = one.lattice + other.lattice, one.point - other.point
            self.assertEqual(bar.value.bottom, joint.order(difference))
            self.assertNotIn(difference, joint)

    def assertApart(self, layers, numbers):
        bar = bar_of(layers)
        self.assertBar(bar, layers)
        self.assertEqual(bar.numbers, numbers)
        self.assertIs(bars(bar, layers), True)
        with self.assertRaises(Apart) as held:
            gather(layers)
        self.assertBar(held.exception.bar, layers)
        self.assertEqual(held.exception.bar.numbers, numbers)


class BarTest(Base):

    def test_attributes(self):
        forms = [Form(1, 2), Form(-1, -2)]
        bar = Bar([0, 1], forms, Ratio(1, 2))
        self.assertEqual((bar.numbers, bar.forms, bar.value), ([0, 1], forms, Ratio(1, 2)))
        bar = Bar(value=Ratio(1, 3), forms=forms, numbers=[2, 3])
        self.assertEqual((bar.numbers, bar.forms, bar.value), ([2, 3], forms, Ratio(1, 3)))

    def test_kinds_and_copies(self):
        numbers, forms = [0, 1], [Form(1, 2), Form(-1, -2)]
        bar = Bar(numbers, forms, Ratio(1, 2))
        numbers.append(5)
        forms.clear()
        self.assertEqual((bar.numbers, bar.forms), ([0, 1], [Form(1, 2), Form(-1, -2)]))
        bar = Bar((0, 1), (Form(1, 2), Form(-1, -2)), 0)
        self.assertEqual([type(told) for told in (bar.numbers, bar.forms, bar.value)], [list, list, Ratio])

    def test_equal_only_to_itself(self):
        one, other = bar_of(THREE), bar_of(THREE)
        self.assertTrue(one == one)
        self.assertFalse(one == other)


class GatherTest(Base):

    def test_one_layer(self):
        for layer in (EVEN, Draw(1).layer(HUNDRED)):
            self.assertEqual(gather([layer]), layer)
            self.assertIsNone(bar_of([layer]))
            self.assertEqual(fullest([layer]), ([0], layer))

    def test_common_points_one_by_one(self):
        for layers in met_lists(2, 12):
            common = gather(layers)
            self.assertIs(type(common), Layer)
            self.assertEqual(places(common, 12), common_places(layers))
            self.assertIsNone(bar_of(layers))

    def test_any_order(self):
        draw = Draw(3)
        for layers in met_lists(4, 3):
            shuffled = list(layers)
            draw.random.shuffle(shuffled)
            self.assertEqual(gather(shuffled), gather(layers))
            self.assertEqual(gather(tuple(layers)), gather(layers=layers))

    def test_drawn_lists(self):
        told = {2: 0, 3: 0, None: 0}
        for layers in lists(5, 40) + lists(6, 60, (2, 4)) + lists(7, 40, (1, 2), (3, 4, 5, 6, 7, 8)):
            numbers = first_apart(layers)
            told[numbers and len(numbers)] += 1
            if numbers is None:
                self.assertEqual(places(gather(layers), 12), common_places(layers))
                self.assertIsNone(bar_of(layers))
            else:
                self.assertApart(layers, numbers)
        self.assertTrue(min(told.values()) > 20, told)

    def test_each_two_and_three_are_enough(self):
        """[17], so that a bar is found whenever there is no common point."""
        for layers in lists(8, 60, (1, 2, 4), (4, 5, 6, 7, 8)):
            self.assertIs(bar_of(layers) is None, bool(common_places(layers)))

    def test_all_ratios_and_great_numbers(self):
        draw = Draw(9)
        for size in (5, HUNDRED):
            for length in range(1, 9):
                point = draw.point(size)
                lattices = [draw.lattice(size) for _ in range(length)]
                layers = [Layer(point + draw.member(lattice, 9), lattice) for lattice in lattices]
                common = gather(layers)
                self.assertTrue(point in common and all(common <= layer for layer in layers))
                expected = lattices[0]
                for lattice in lattices:
                    expected = expected & lattice
                self.assertEqual(common.lattice, expected)

    def test_equal_layers(self):
        self.assertEqual(gather([EVEN] * 8), EVEN)
        self.assertEqual(fullest([EVEN] * 8), (list(range(8)), EVEN))
        beside = EVEN.shifted(Point(1, 0))
        self.assertApart([EVEN, EVEN, beside, beside], [0, 2])
        self.assertEqual(fullest([EVEN, beside, EVEN, beside]), ([0, 2], EVEN))

    def test_no_layers_and_nine(self):
        for call in (gather, bar_of, fullest):
            for none in ([], ()):
                with self.assertRaises(NoSuch) as held:
                    call(none)
                self.assertEqual(held.exception.number, 0)
            for many in (9, 10, 40):
                for layers in ([EVEN] * many, (EVEN, *[EVEN.shifted(Point(1, 0))] * (many - 1))):
                    with self.assertRaises(TooMany) as held:
                        call(layers)
                    self.assertEqual(held.exception.most, 8)
            self.assertIsNotNone(call([EVEN] * 8) or call is bar_of)

    def test_lists_stay(self):
        layers = list(THREE)
        bar = bar_of(layers)
        self.assertEqual(len(fullest(layers)[0]), 2)
        self.assertTrue(bars(bar, layers))
        self.assertEqual(len(gather(layers[:2]).lattice.rows()), 2)
        for layer, kept in zip(layers, THREE):
            self.assertIs(layer, kept)
        self.assertEqual(len(layers), 3)


class BarsOfLayersTest(Base):

    def test_example(self):
        bar = bar_of(THREE)
        self.assertEqual((bar.numbers, bar.value), ([0, 1, 2], Ratio(1, 2)))
        self.assertApart(THREE, [0, 1, 2])
        self.assertEqual(bar_of(layers=tuple(THREE)).numbers, [0, 1, 2])

    def test_order_of_the_difference(self):
        one = Layer(ORIGIN, Lattice.oblong(12, 30))
        for x, y, order in ((6, 0, 2), (0, 10, 3), (6, 10, 6), (3, 5, 12), (1, 1, 60), (4, 6, 15), (Ratio(1, 7), 15, 84)):
            bar = bar_of([one, one.shifted(Point(x, y))])
            self.assertEqual(bar.value.bottom, order)
            self.assertApart([one, one.shifted(Point(x, y))], [0, 1])

    def test_bars_of_two_by_drawn_layers(self):
        draw = Draw(10)
        for size in (4, 30, HUNDRED):
            for _ in range(20):
                one, lattice = draw.layer(size), draw.lattice(size)
                joint = one.lattice + lattice
                step = joint.rows()[0] * draw.ratio(9) + joint.rows()[1] * Ratio(draw.integer(9) * 10 + 3, 10)
                layers = [one, Layer(one.point + step, lattice)]
                self.assertApart(layers, [0, 1])
                self.assertApart(layers[::-1], [0, 1])

    def test_bars_of_three_by_drawn_layers(self):
        """The third layer meets both others, but not their common layer."""
        draw = Draw(11)
        found = 0
        while found < 40:
            size = draw.random.choice((3, 5, HUNDRED))
            scale = draw.point(size).x + 1
            if not scale:
                continue
            one, other, third = [draw.narrow_lattice(4) for _ in range(3)]
            joint = (one & other) + third
            step = draw.whole_point(3)
            if step in joint or step not in one + third or step not in other + third:
                continue
            found += 1
            point = draw.point(size)
            layers = [Layer(point, one * scale), Layer(point, other * scale), Layer(point + step * scale, third * scale)]
            for shuffled in itertools.permutations(layers):
                self.assertApart(list(shuffled), [0, 1, 2])

    def test_first_two_before_any_three(self):
        beside = EVEN.shifted(Point(1, 0))
        self.assertApart([*THREE, beside], [0, 3])
        self.assertApart([THREE[1], THREE[2], EVEN, beside], [2, 3])
        self.assertApart([beside, *THREE], [0, 1])
        self.assertApart([*THREE, THREE[1].shifted(Point(0, 1)), beside], [0, 4])

    def test_first_three(self):
        other = Layer(Point(0, 1), THREE[2].lattice)
        self.assertEqual(other, THREE[2])
        square = Layer(ORIGIN, Lattice.square(1))
        self.assertApart([square, *THREE, THREE[1]], [1, 2, 3])
        self.assertApart([THREE[1], EVEN, THREE[1], THREE[2], EVEN], [0, 1, 3])
        self.assertApart([EVEN, EVEN, THREE[2], THREE[1], THREE[1]], [0, 2, 3])

    def test_pairs_by_the_first_then_the_second(self):
        thirds = [Layer(Point(number, 0), Lattice.oblong(3, 1)) for number in range(3)]
        self.assertApart([EVEN, thirds[0], thirds[1], EVEN.shifted(Point(1, 0))], [0, 3])
        self.assertApart([thirds[0], EVEN, thirds[0], thirds[2], thirds[1]], [0, 3])
        self.assertApart([EVEN, thirds[2], thirds[2], thirds[1], thirds[0]], [1, 3])


class SpoiledTest(Base):

    def two(self):
        layers = [Layer(ORIGIN, Lattice.oblong(6, 4)), Layer(Point(1, 0), Lattice.oblong(3, 8)), THREE[2]]
        return bar_of(layers), layers

    def refuse(self, layers, numbers, forms, value):
        self.assertIs(bars(Bar(numbers, forms, value), layers), False)

    def test_unspoiled(self):
        for bar, layers in (self.two(), (bar_of(THREE), THREE)):
            self.assertIs(bars(bar, layers), True)
            self.assertIs(bars(layers=tuple(layers), bar=Bar(bar.numbers, bar.forms, bar.value)), True)
            # A list of any length may hold the layers of a bar.
            self.assertIs(bars(bar, layers + [EVEN] * 30), True)

    def test_other_bars(self):
        bar, layers = self.two()
        form = bar.forms[0]
        self.assertEqual(bar.value.bottom, 3)
        double = (bar.value * 2) % 1
        self.assertIs(bars(Bar([0, 1], [form * 2, form * -2], double), layers), True)
        self.assertIs(bars(Bar([0, 1, 2], [form, -form, Form(0, 0)], bar.value), layers), True)
        self.assertIs(bars(Bar([1, 4], [form, -form], (-bar.value) % 1), [EVEN, layers[1], EVEN, EVEN, layers[0]]), True)
        six = [Layer(ORIGIN, Lattice.square(1)), Layer(Point(Ratio(1, 6), 0), Lattice.square(1))]
        # In a bar that is not returned the bottom may be a divisor of the order.
        self.assertIs(bars(Bar([0, 1], [Form(3, 0), Form(-3, 0)], Ratio(1, 2)), six), True)
        self.refuse(six, [0, 1], [Form(6, 0), Form(-6, 0)], 0)

    def test_numbers(self):
        for bar, layers in (self.two(), (bar_of(THREE), THREE)):
            numbers, forms, value = bar.numbers, bar.forms, bar.value
            count = len(numbers)
            for spoiled in (numbers[::-1], [0] * count, [1] * count, [*numbers[:-1], len(layers)], [*numbers[:-1], HUNDRED],
                            [-1, *numbers[1:]], [-len(layers), *numbers[1:]], numbers[:-1], [*numbers, count], [0], [],
                            [*numbers[:-1], -1], [numbers[0], *numbers[:-1]], [False, True, 2][:count],
                            [Ratio(0), *numbers[1:]], [*numbers[:-1], None]):
                self.refuse(layers, spoiled, forms, value)
            self.refuse(layers, numbers[::-1], forms[::-1], value)

    def test_numbers_that_name_equal_layers(self):
        """Each other thing of such a bar holds, but its numbers are not two or three ascending ones."""
        bar, layers = self.two()
        form, value = bar.forms[0], bar.value
        none = Form(0, 0)
        self.assertIs(bars(bar, layers), True)
        self.refuse([*layers, layers[2]], [0, 1, 2, 3], [form, -form, none, none], value)
        self.refuse([*layers, layers[0]], [1, 3, 0], [-form, none, form], value)
        self.refuse(layers, [1, 0], [-form, form], value)
        self.refuse(layers, [0, 0, 1], [form * 2, -form, -form], value)
        self.refuse(layers, [0, 1, 1], [form, -form, none], value)
        self.refuse(layers, [0, -2], [form, -form], value)
        self.refuse([*layers, layers[0]], [-1, 1], [form, -form], value)
        self.refuse([layers[0]], [0], [none], 0)
        self.refuse([layers[0]], [0], [Form(1, 0)], Ratio(1, 2))

    def test_number_of_forms(self):
        for bar, layers in (self.two(), (bar_of(THREE), THREE)):
            for forms in (bar.forms[:-1], [*bar.forms, Form(0, 0)], [], bar.forms * 2):
                self.refuse(layers, bar.numbers, forms, bar.value)

    def test_forms_that_are_not_whole(self):
        layers = [Layer(ORIGIN, Lattice.oblong(2, 1)), Layer(Point(Ratio(1, 2), 0), Lattice.oblong(1, 2))]
        good = Form(1, 1)
        self.assertIs(bars(Bar([0, 1], [good, -good], Ratio(1, 2)), layers), True)
        for form in (Form(Ratio(1, 2), 1), Form(1, Ratio(1, 2)), Form(Ratio(1, 3), Ratio(1, 3))):
            difference = form(layers[0].point - layers[1].point) % 1
            self.refuse(layers, [0, 1], [form, -form], difference if difference else Ratio(1, 2))
            self.refuse(layers[::-1], [0, 1], [form, -form], (-difference) % 1)
        self.assertEqual(Form(Ratio(1, 2), 1)(layers[0].point - layers[1].point) % 1, Ratio(3, 4))

    def test_forms_that_do_not_add_up_to_zero(self):
        for bar, layers in (self.two(), (bar_of(THREE), THREE)):
            for at in range(len(bar.forms)):
                for change in layers[bar.numbers[at]].lattice.tests():
                    forms = list(bar.forms)
                    forms[at] = forms[at] + change
                    value = value_of(Bar(bar.numbers, forms, 0), layers)
                    self.refuse(layers, bar.numbers, forms, value)
                    self.refuse(layers, bar.numbers, forms, bar.value)

    def test_values(self):
        for bar, layers in (self.two(), (bar_of(THREE), THREE)):
            for value in (0, 1, bar.value + 1, bar.value - 1, bar.value * Ratio(1, 2), Ratio(3, 7), bar.value + 5):
                self.refuse(layers, bar.numbers, bar.forms, value)
            self.refuse(layers, bar.numbers, [Form(0, 0)] * len(bar.forms), 0)
            self.refuse(layers, bar.numbers, [Form(0, 0)] * len(bar.forms), bar.value)

    def test_other_layers(self):
        for bar, layers in (self.two(), (bar_of(THREE), THREE)):
            number = bar.numbers[0]
            for changed in (layers[number].shifted(Point(Ratio(1, 5), Ratio(1, 7))),
                            Layer(layers[number].point, layers[number].lattice * Ratio(1, 7))):
                others = list(layers)
                others[number] = changed
                self.assertIs(bars(bar, others), False)

    def test_layers_of_any_length(self):
        bar = bar_of(THREE)
        for layers in ([], [EVEN], THREE[:2], [EVEN] * 9, [EVEN] * 40):
            self.assertIs(bars(bar, layers), False)


class FullestTest(Base):

    def expected(self, layers):
        held = [places(layer, 12) for layer in layers]
        for size in range(len(layers), 0, -1):
            for numbers in itertools.combinations(range(len(layers)), size):
                if set.intersection(*[held[number] for number in numbers]):
                    return list(numbers)
        raise AssertionError("each layer has a point")

    def test_example(self):
        self.assertEqual(fullest(THREE), ([0, 1], Layer(ORIGIN, Lattice.square(2))))
        self.assertEqual(fullest(layers=tuple(THREE))[0], [0, 1])

    def test_drawn_lists(self):
        lengths = set()
        for layers in lists(20, 25) + lists(21, 25, (2, 4)) + lists(22, 25, (3, 12)):
            told = fullest(layers)
            self.assertIs(type(told), tuple)
            numbers, common = told
            self.assertIs(type(numbers), list)
            self.assertEqual(numbers, self.expected(layers))
            self.assertEqual(places(common, 12), common_places([layers[number] for number in numbers]))
            lengths.add(len(numbers))
        self.assertGreaterEqual(len(lengths), 6)

    def test_ties(self):
        rows = [Layer(Point(number % 3, 0), Lattice.oblong(3, 1)) for number in (0, 1, 1, 2, 0, 2)]
        self.assertEqual(fullest(rows), ([0, 4], rows[0]))
        self.assertEqual(fullest(rows[1:]), ([0, 1], rows[1]))
        self.assertEqual(fullest(rows[:2]), ([0], rows[0]))
        self.assertEqual(fullest([rows[0], rows[3], rows[1]]), ([0], rows[0]))
        self.assertEqual(fullest([rows[3], rows[0], rows[1], rows[4], rows[2]]), ([1, 3], rows[0]))

    def test_longer_ones_before_earlier_ones(self):
        one, other = EVEN, EVEN.shifted(Point(1, 0))
        self.assertEqual(fullest([one, other, other]), ([1, 2], other))
        self.assertEqual(fullest([one, one, other, other, other]), ([2, 3, 4], other))

    def test_all(self):
        for layers in met_lists(23, 3):
            self.assertEqual(fullest(layers), (list(range(len(layers))), gather(layers)))

    def test_new_lists(self):
        first, second = fullest(THREE), fullest(THREE)
        self.assertEqual(first, second)
        first[0].append(5)
        self.assertEqual(fullest(THREE), second)


def closure(lattices):
    """What comes by repeated common parts and sums, one step after the other."""
    found = {}
    new = list(lattices)
    while new:
        lattice = new.pop()
        key = str(lattice.a), str(lattice.b), str(lattice.d)
        if key not in found:
            for other in list(found.values()):
                new.append(lattice & other)
                new.append(lattice + other)
            found[key] = lattice
    return found


class WovenTest(Base):

    def check(self, lattices):
        told = woven(*lattices)
        self.assertIs(type(told), list)
        self.assertTrue(all(type(lattice) is Lattice for lattice in told))
        keys = [(str(lattice.a), str(lattice.b), str(lattice.d)) for lattice in told]
        self.assertEqual(len(keys), len(set(keys)))
        self.assertEqual(set(keys), set(closure(lattices)))
        self.assertLessEqual(len(told), 28)
        return len(told)

    def test_drawn_lattices(self):
        draw = Draw(30)
        counts = set()
        for _ in range(60):
            indexes = [draw.random.choice((2, 4, 12, 30, 36, 60, 64, 72)) for _ in range(3)]
            counts.add(self.check([draw.narrow_lattice(index) for index in indexes]))
        for _ in range(10):
            counts.add(self.check([draw.lattice(8) for _ in range(3)]))
        self.assertGreater(len(counts), 6)

    def test_equal_ones_and_chains(self):
        one, other = Lattice.square(1), Lattice([Point(2, 1), Point(0, 3)])
        self.assertEqual(self.check([one, one, one]), 1)
        self.assertEqual(self.check([other, other, one]), 2)
        self.assertEqual(self.check([one, one * 2, one * 4]), 3)
        self.assertEqual(self.check([Lattice.oblong(2, 1), Lattice.oblong(1, 2), one]), 4)

    def test_all_twenty_eight(self):
        """Lattices that need each of the 28: three lines of a small plane, chains, and both ways of both."""
        draw = Draw(31)
        most = 0
        for _ in range(40):
            most = max(most, self.check([draw.narrow_lattice(2 ** 6 * 3 ** 4 * 5 ** 2) for _ in range(3)]))
        # Other primes play no part in one another, so each of the parts may be chosen alone.
        whole = Lattice.square(1)
        three = [Lattice.oblong(2, 1), Lattice.oblong(1, 2), Lattice([Point(1, 1), Point(0, 2)])]
        for prime, order in ((3, (0, 1, 2)), (5, (1, 2, 0)), (7, (2, 0, 1))):
            parts = [whole * prime ** 2, whole * prime, Lattice.oblong(prime, 1)]
            three = [lattice & parts[at] for lattice, at in zip(three, order)]
        for prime, order in ((11, (0, 0, 1)), (13, (0, 1, 0)), (17, (1, 0, 0)), (19, (0, 1, 1)), (23, (1, 0, 1)),
                             (29, (1, 1, 0))):
            parts = [whole, whole * prime]
            three = [lattice & parts[at] for lattice, at in zip(three, order)]
        most = max(most, self.check(three))
        self.assertEqual(most, 28)

    def test_names_and_order(self):
        one, two, three = Lattice.oblong(2, 1), Lattice.oblong(1, 3), Lattice([Point(1, 1), Point(0, 4)])
        told = woven(three=three, two=two, one=one)
        other = woven(three, one, two)
        self.assertEqual(len(told), len(other))
        self.assertTrue(all(lattice in other for lattice in told))
        for lattice in (one, two, three):
            self.assertIn(lattice, told)

    def test_great_numbers(self):
        draw = Draw(32)
        told = woven(*[draw.lattice(HUNDRED) for _ in range(3)])
        self.assertLessEqual(len(told), 28)
        for one, other in itertools.combinations(told[:6], 2):
            self.assertIn(one & other, told)
            self.assertIn(one + other, told)


class LimitsTest(Base):
    """[80]: layers with numbers of many figures."""

    def test_three_hundred_figures(self):
        draw = Draw(40)
        size = 10 ** 300 - 1
        begun = time.monotonic()
        point = draw.point(size)
        layers = [Layer(point, draw.lattice(size)) for _ in range(8)]
        common = gather(layers)
        self.assertTrue(point in common and all(common <= layer for layer in layers))
        self.assertEqual(fullest(layers), (list(range(8)), common))
        joint = (layers[0].lattice & layers[1].lattice) + layers[7].lattice
        layers[7] = layers[7].shifted(joint.rows()[1] * Ratio(1, 2))
        bar = bar_of(layers)
        self.assertBar(bar, layers)
        self.assertTrue(bars(bar, layers))
        self.assertEqual(fullest(layers)[0], list(range(7)))
        self.assertLess(time.monotonic() - begun, 30)

    def test_woven(self):
        draw = Draw(41)
        begun = time.monotonic()
        told = woven(*[draw.lattice(10 ** 300 - 1) for _ in range(3)])
        self.assertLessEqual(len(told), 28)
        self.assertLess(time.monotonic() - begun, 20)


if __name__ == "__main__":
    unittest.main()
