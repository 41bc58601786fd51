"""[22] to [24], [57]: lattices told back by their index, their common part and their sum."""

import itertools
import time
import unittest

from overfloors.errors import BadNumber, NotWithin, TooFar, TooMany
from overfloors.lattices import Lattice
from overfloors.points import Point
from overfloors.ratios import Ratio
from overfloors.toldback import complements, count_partners, partners, sublattices, superlattices
from drawn import Draw, HUNDRED, no_counts

Z = Lattice.square(1)
SLANTED = Lattice([Point(2, 1), Point(0, 3)])


def sum_of_divisors(number):
    return sum([divisor for divisor in range(1, number + 1) if number % divisor == 0])


def key(lattice):
    return str(lattice.a), str(lattice.b), str(lattice.d)


def keys(lattices):
    return sorted([key(lattice) for lattice in lattices])


def searched(lattice, number):
    """The keys of the lattices of this index, among those of all pairs of points of a lattice."""
    u, v = lattice.rows()
    points = [u * x + v * y for x, y in itertools.product(range(number), repeat=2)]
    found = {}
    for one, other in itertools.combinations_with_replacement(points, 2):
        made = Lattice([one, other, u * number, v * number])
        if made.cell == lattice.cell * number:
            found[key(made)] = made
    return sorted(found)


def pairs():
    """Pairs of a lattice and of one within it, of many kinds."""
    draw = Draw(1)
    found = [(Z, Lattice.oblong(r, r * k)) for r in (1, 2, 3, 4, 6) for k in (1, 2, 3, 4, 5, 6, 12)]
    found += [(Z, draw.narrow_lattice(index)) for index in range(1, 31)]
    for _ in range(12):
        lattice = draw.lattice(6)
        u, v = lattice.rows()
        found.append((lattice, Lattice([u * draw.integer(6) + v, u * 12, v * 30])))
        found.append((lattice, lattice * draw.random.randint(1, 6)))
    return found


class Base(unittest.TestCase):

    def assertEach(self, told, size=None):
        """A list of lattices, each once."""
        self.assertIs(type(told), list)
        self.assertTrue(all(type(lattice) is Lattice for lattice in told))
        self.assertEqual(len(set(keys(told))), len(told))
        if size is not None:
            self.assertEqual(len(told), size)

    def assertNumbers(self, call, last=997):
        """The errors of a number whose lattices are listed, and the last one that is let."""
        for value in no_counts():
            with self.assertRaises(BadNumber) as held:
                call(value)
            self.assertIs(held.exception.value, value)
        for number in list(range(300, 1030)) + [HUNDRED, HUNDRED + 1, 10 ** 119, 2 ** 61 - 1]:
            if number >= 1000 or sum_of_divisors(number) > 1000:
                with self.assertRaises(TooMany) as held:
                    call(number)
                self.assertEqual(held.exception.most, 1000)
        call(last)


class SublatticesTest(Base):

    def lattices(self):
        draw = Draw(2)
        return [Z, SLANTED, Lattice.oblong(Ratio(1, 2), 3), draw.lattice(6), draw.lattice(HUNDRED)]

    def test_example(self):
        self.assertEach(sublattices(Z, 6), 12)

    def test_as_many_as_divisors_tell(self):
        for lattice in self.lattices():
            for number in list(range(1, 25)) + [60, 64, 97, 360 // 2, 210]:
                told = sublattices(lattice, number)
                self.assertEach(told, sum_of_divisors(number))
                for found in told:
                    self.assertEqual(lattice.index_of(found), number)

    def test_around(self):
        for lattice in self.lattices():
            for number in list(range(1, 25)) + [60, 64, 97, 360 // 2, 210]:
                told = superlattices(lattice, number)
                self.assertEach(told, sum_of_divisors(number))
                for found in told:
                    self.assertEqual(found.index_of(lattice), number)

    def test_against_a_search(self):
        for lattice in self.lattices()[:4]:
            for number in range(1, 7):
                self.assertEqual(keys(sublattices(lattice, number)), searched(lattice, number))

    def test_around_against_a_search(self):
        for lattice in self.lattices()[:4]:
            for number in range(1, 6):
                wider = lattice * Ratio(1, number)
                # What has the index number around the lattice has it within the wider one too.
                expected = [one for one in sublattices(wider, number) if lattice <= one]
                self.assertEqual(keys(superlattices(lattice, number)), keys(expected))

    def test_both_ways(self):
        for number in (1, 2, 4, 6, 9):
            for found in sublattices(SLANTED, number):
                self.assertIn(key(SLANTED), keys(superlattices(found, number)))

    def test_names_and_new_lists(self):
        for call in (sublattices, superlattices):
            told = call(number=4, lattice=SLANTED)
            self.assertEqual(keys(told), keys(call(SLANTED, 4)))
            told.clear()
            self.assertEqual(len(call(SLANTED, 4)), 7)
            self.assertEqual(call(SLANTED, 1), [SLANTED])

    def test_numbers(self):
        self.assertEqual(sum_of_divisors(997), 998)
        for call in (sublattices, superlattices):
            self.assertNumbers(lambda number, call=call: call(Z, number))
            for number in (997, 336, 499, 1):
                self.assertEach(call(SLANTED, number), sum_of_divisors(number))

    def test_sums_just_above_and_at_most_a_thousand(self):
        sums = {number: sum_of_divisors(number) for number in range(1, 1000)}
        greatest = max([number for number in sums if sums[number] <= 1000], key=lambda number: (sums[number], number))
        least = min([number for number in sums if sums[number] > 1000], key=lambda number: (sums[number], number))
        for call in (sublattices, superlattices):
            self.assertEach(call(Z, greatest), sums[greatest])
            with self.assertRaises(TooMany):
                call(Z, least)


class PartnersTest(Base):

    def expected(self, lattice, common, number):
        """By the definition: among all lattices around the common part."""
        return [found for found in superlattices(common, number) if found & lattice == common]

    def test_example(self):
        told = partners(Z, Lattice.oblong(2, 1), 2)
        self.assertEach(told, 2)
        self.assertEqual(keys(told), keys(self.expected(Z, Lattice.oblong(2, 1), 2)))

    def test_against_a_search(self):
        sizes = set()
        for lattice, common in pairs():
            for number in (1, 2, 3, 4, 5, 6, 8, 9, 12, 30):
                told = partners(lattice, common, number)
                self.assertEach(told)
                self.assertEqual(keys(told), keys(self.expected(lattice, common, number)))
                self.assertEqual(count_partners(lattice, common, number), len(told))
                sizes.add(len(told))
        self.assertGreater(len(sizes), 12)

    def test_members_of_the_definition(self):
        for lattice, common in pairs()[::3]:
            for number in (2, 6, 60):
                for found in partners(lattice, common, number):
                    self.assertEqual(found & lattice, common)
                    self.assertEqual(found.index_of(common), number)

    def test_lattice_itself(self):
        for lattice in (Z, SLANTED):
            for number in (1, 2, 6, 12):
                told = partners(common=lattice, lattice=lattice, number=number)
                self.assertEqual(keys(told), keys(superlattices(lattice, number)))
                self.assertEqual(partners(lattice, lattice * number, 1), [lattice * number])

    def test_counts_by_primes(self):
        """[23] for primes that divide s, t but not s, and neither, and for their products."""
        for r, k, number, expected in ((1, 1, 8, 15), (1, 2, 8, 8), (2, 1, 8, 0), (2, 3, 9, 9), (2, 3, 5, 6), (3, 2, 4, 4),
                                       (1, 6, 36, 36), (1, 6, 180, 216), (1, 2, 12, 16), (5, 7, 49 * 4, 49 * 7),
                                       (1, 4, 2, 2), (4, 1, 2, 0), (1, 4, 16, 16), (9, 9, 3, 0), (1, 9, 27, 27)):
            common = Lattice.oblong(r, r * k)
            self.assertEqual(count_partners(Z, common, number), expected)
            self.assertEach(partners(Z, common, number), expected)

    def test_great_counts(self):
        common = Lattice.oblong(2, 6)
        for number, expected in ((999983, 999984), (10 ** 6, 0), (3 ** 12, 3 ** 12), (5 ** 8, (5 ** 9 - 1) // 4),
                                 (999999, 27 * sum_of_divisors(37037)), (5 ** 6 * 49, (5 ** 7 - 1) // 4 * 57),
                                 (3 * 333331, 3 * sum_of_divisors(333331))):
            self.assertEqual(count_partners(Z, common, number), expected)
        told = count_partners(lattice=Z, common=Z, number=10 ** 6)
        self.assertIs(type(told), int)
        self.assertEqual(told, sum_of_divisors(10 ** 6))

    def test_not_within(self):
        for lattice, common in ((Lattice.square(2), Z), (Z, Lattice.oblong(Ratio(1, 2), 2)), (SLANTED, Lattice.square(2)),
                                (Lattice.oblong(1, 2), Lattice.oblong(2, 1))):
            for number in [1, 2, 5000, HUNDRED, *no_counts()]:
                for call in (partners, count_partners):
                    with self.assertRaises(NotWithin):
                        call(lattice, common, number)

    def test_numbers_of_partners(self):
        for common in (Z, Lattice.oblong(2, 1), Lattice.square(997)):
            self.assertNumbers(lambda number, common=common: partners(Z, common, number))

    def test_numbers_of_counts(self):
        for value in no_counts():
            with self.assertRaises(BadNumber) as held:
                count_partners(Z, Lattice.square(2), value)
            self.assertIs(held.exception.value, value)
        for number in (1000001, 10 ** 7, HUNDRED):
            with self.assertRaises(TooFar) as held:
                count_partners(Z, Lattice.square(2), number)
            self.assertEqual(held.exception.number, number)
        self.assertEqual(count_partners(Z, Z, 1000000), sum_of_divisors(1000000))


class ComplementsTest(Base):

    def test_example(self):
        told = complements(Lattice.oblong(2, 1), Lattice.oblong(4, 1), Z)
        self.assertEqual(told, [])
        self.assertIs(type(told), list)

    def test_against_a_search(self):
        sizes = set()
        for lattice, common in pairs()[::2]:
            for number in (1, 2, 3, 4, 6):
                for joint in superlattices(lattice, number)[:5]:
                    told = complements(lattice, common, joint)
                    self.assertEach(told)
                    # As the index of the common part in a complement is that of the lattice in the sum.
                    expected = [found for found in superlattices(common, number)
                                if found & lattice == common and found + lattice == joint]
                    self.assertEqual(keys(told), keys(expected))
                    sizes.add(len(told))
        self.assertGreater(len(sizes), 5)

    def test_any_index_at_all(self):
        """A search through the lattices between both, whatever their index is."""
        slope = Lattice([Point(1, 1), Point(0, 2)])
        for lattice, common, joint, size in ((Lattice.oblong(2, 1), Lattice.oblong(2, 3), Z, 1), (SLANTED, SLANTED * 2, Z, 0),
                                             (Lattice.oblong(2, 1), Lattice.square(2), Z, 2), (slope, Lattice.square(2), Z, 2),
                                             (SLANTED, SLANTED * 5, Z, 1), (SLANTED, Lattice.oblong(2, 21) & SLANTED, Z, 3)):
            between = [found for number in range(1, joint.index_of(common) + 1) if joint.index_of(common) % number == 0
                       for found in superlattices(common, number) if found <= joint]
            expected = [found for found in between if found & lattice == common and found + lattice == joint]
            told = complements(common=common, joint=joint, lattice=lattice)
            self.assertEqual(keys(told), keys(expected))
            self.assertEach(told, size)

    def test_lattice_that_is_an_end(self):
        self.assertEqual(complements(SLANTED, SLANTED, SLANTED), [SLANTED])
        self.assertEqual(complements(Z, SLANTED, Z), [SLANTED])
        self.assertEqual(complements(SLANTED, SLANTED, Z), [Z])

    def test_not_within(self):
        half = Lattice.oblong(Ratio(1, 2), 1)
        far = Lattice.square(10 ** 9)
        for lattice, common, joint in ((Z, half, half), (Z, Lattice.square(2), Lattice.square(3)), (Z, half, Lattice.square(2)),
                                       (SLANTED, Lattice.square(2), Z), (SLANTED, SLANTED, Lattice.square(2)),
                                       (far, Z, Z), (Z, far, far), (Z, Z, Lattice.oblong(Ratio(1, 2), 2))):
            with self.assertRaises(NotWithin):
                complements(lattice, common, joint)

    def test_too_many(self):
        for number in (1000, 1009, 720, 10 ** 60):
            for common in (Lattice.oblong(number, 1), Lattice.square(number * 3)):
                with self.assertRaises(TooMany) as held:
                    complements(Lattice.oblong(number, 1), common, Z)
                self.assertEqual(held.exception.most, 1000)
        told = complements(Lattice.oblong(997, 1), Lattice.square(997), Z)
        self.assertEach(told, 997)
        for found in (told[0], told[500], told[-1]):
            self.assertEqual(found & Lattice.oblong(997, 1), Lattice.square(997))
            self.assertEqual(found + Lattice.oblong(997, 1), Z)


class LimitsTest(Base):
    """[80]: lattices with numbers of many figures."""

    def test_three_hundred_figures(self):
        draw = Draw(3)
        size = 10 ** 300 - 1
        begun = time.monotonic()
        lattice, other = draw.lattice(size), draw.lattice(size)
        common = lattice & other
        for call in (sublattices, superlattices):
            self.assertEach(call(lattice, 997), 998)
        told = partners(lattice, common, 240)
        self.assertEach(told, count_partners(lattice, common, 240))
        for found in told[:3]:
            self.assertEqual(found & lattice, common)
        many = count_partners(lattice, lattice * 999983, 999979)
        self.assertEqual(many, 999980)
        joint = superlattices(lattice, 7)[3]
        for found in complements(lattice, lattice & superlattices(common, 7)[5], joint):
            self.assertEqual(found + lattice, joint)
        self.assertLess(time.monotonic() - begun, 20)


if __name__ == "__main__":
    unittest.main()
