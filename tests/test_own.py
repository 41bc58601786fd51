"""[2], [37], [38], [69]: own motions of tiles, centres, and common motions."""

import itertools
import time
import unittest

from overfloors.errors import Clash
from overfloors.grounds import Ground
from overfloors.lattices import Lattice
from overfloors.motions import Motion, shifting
from overfloors.own import centres, common_motions, own_motions
from overfloors.points import Point
from overfloors.ratios import Ratio
from overfloors.tiles import Tile
from overfloors.turns import turn
from drawn import Draw, fraction, pair
from search import keys_of, motions_between, point_of

S, T = Ground(1, 0, 1), Ground(1, 1, 1)
GROUNDS = [S, T, Ground(1, 0, 3), Ground(2, 1, 2), Ground(2, 2, 3), Ground(3, -5, 7)]
Z = Lattice.square(1)
HALF, THIRD, FIFTH = Ratio(1, 2), Ratio(1, 3), Ratio(1, 5)
ORIGIN = Point(0, 0)
STILL = Motion([[1, 0], [0, 1]])


def turned_tile(ground, motions, points):
    """A tile on the whole points with the images of some points under all products of some motions, a letter for each point."""
    marks = {}
    for letter, point in zip("abcdef", points):
        found = [point]
        for at in found:
            for motion in motions:
                image = Z.rest(motion(at))
                if image not in found:
                    found.append(image)
        marks[letter] = found
    return Tile(Z, marks)


# Tiles with each number of own motions, told by the motions that they were made with.
QUARTER, SIXTH = Motion([[0, -1], [1, 0]]), Motion([[0, -1], [1, 1]])
THIRDS = SIXTH * SIXTH
ODD = [Point(FIFTH, Ratio(2, 7)), Point(Ratio(3, 11), Ratio(1, 13))]
MADE = [
    (S, [], 1, []), (S, [Motion([[-1, 0], [0, -1]])], 2, [2, 2, 2, 2]), (S, [Motion([[1, 0], [0, -1]])], 2, []),
    (S, [Motion([[1, 0], [0, -1]], Point(HALF, 0))], 2, []), (T, [THIRDS], 3, [3, 3, 3]), (S, [QUARTER], 4, [2, 2, 4, 4]),
    (S, [Motion([[1, 0], [0, -1]]), Motion([[-1, 0], [0, 1]])], 4, [2, 2, 2, 2]), (T, [SIXTH], 6, [2, 2, 2, 3, 3, 6]),
    (S, [Motion([[0, 1], [1, 0]]), Motion([[-1, 0], [0, -1]])], 4, [2, 2, 2, 2]), (T, [THIRDS, Motion([[0, 1], [1, 0]])], 6, [3, 3, 3]),
    (S, [QUARTER, Motion([[1, 0], [0, -1]])], 8, [2, 2, 4, 4]), (T, [SIXTH, Motion([[0, 1], [1, 0]])], 12, [2, 2, 2, 3, 3, 6]),
    (S, [QUARTER, Motion([[1, 0], [0, -1]], Point(HALF, HALF))], 8, [2, 2, 4, 4]),
    (T, [THIRDS, Motion([[0, -1], [-1, 0]])], 6, [3, 3, 3]),
    (S, [Motion([[-1, 0], [0, -1]]), Motion([[1, 0], [0, -1]], Point(HALF, HALF))], 4, [2, 2, 2, 2]),
]


class OwnTest(unittest.TestCase):

    def assertOwn(self, ground, tile):
        """The own motions against a search."""
        found = own_motions(ground, tile)
        self.assertIs(type(found), list)
        for motion in found:
            self.assertIs(type(motion), Motion)
            self.assertEqual(motion.stretch(ground), 1)
            self.assertEqual(tile.moved(motion), tile)
            self.assertEqual(tile.lattice.rest(motion.shift), motion.shift)
        tables = [motion.table for motion in found]
        self.assertTrue(all(one != other for one, other in itertools.combinations(tables, 2)))
        self.assertIn(STILL, found)
        self.assertEqual(keys_of(found), keys_of(motions_between(ground, tile, ground, tile)))
        return len(found)

    def test_example(self):
        tile = Tile(Z, {"a": [ORIGIN]})
        self.assertEqual(self.assertOwn(S, tile), 8)
        self.assertEqual(centres(S, tile), [(ORIGIN, 4), (Point(0, HALF), 2), (Point(HALF, 0), 2), (Point(HALF, HALF), 4)])
        other = Tile(Z, {"b": [Point(THIRD, 0)]})
        found = common_motions(S, tile, other)
        self.assertEqual(keys_of(found), keys_of([STILL, Motion([[1, 0], [0, -1]])]))

    def test_each_number(self):
        counts = set()
        for ground, motions, many, orders in MADE:
            tile = turned_tile(ground, motions, ODD if many < 12 else ODD[:1])
            self.assertEqual(self.assertOwn(ground, tile), many)
            self.assertEqual(sorted(order for _, order in centres(ground, tile)), orders)
            counts.add(many)
            moved = shifting(Point(Ratio(1, 17), Ratio(5, 19))) * turn(ground, Point(3, 2))
            image = tile.moved(moved)
            self.assertEqual(self.assertOwn(ground, image), many)
            self.assertEqual(sorted(order for _, order in centres(ground, image)), orders)
        self.assertEqual(counts, {1, 2, 3, 4, 6, 8, 12})

    def test_bare_lattices(self):
        for ground, lattice, many in ((S, Z, 8), (T, Z, 12), (S, Lattice.oblong(1, 2), 4), (S, Lattice([Point(2, 0), Point(1, 2)]), 4),
                                      (S, Lattice([Point(3, 0), Point(1, 5)]), 2), (T, Lattice.oblong(2, 1), 4), (Ground(2, 1, 2), Z, 4),
                                      (Ground(3, -5, 7), Z, None)):
            tile = Tile(lattice, {"a": [Point(FIFTH, HALF)]})
            found = self.assertOwn(ground, tile)
            self.assertIn(found, (many,) if many else (2, 4, 8, 12))

    def test_drawn_tiles(self):
        draw = Draw(1)
        counts = set()
        for ground in GROUNDS:
            for lattice in (Z, Lattice.oblong(2, 1), Lattice.square(2), Lattice.square(3)):
                for parts in (2, 3):
                    first, second = lattice.rows()
                    try:
                        tile = Tile(lattice, {letter: [first * Ratio(draw.integer(parts), parts) + second * Ratio(draw.integer(parts), parts)
                                                       for _ in range(2)] for letter in "ab"})
                    except Clash:
                        continue
                    counts.add(self.assertOwn(ground, tile))
        self.assertGreaterEqual(len(counts), 3)

    def test_told_otherwise(self):
        one = Tile(Lattice.oblong(4, 2), {"a": [ORIGIN, Point(2, 0)], "b": [Point(1, 1), Point(-1, 1)]})
        self.assertEqual(self.assertOwn(S, one), 8)
        self.assertEqual(keys_of(own_motions(tile=one, ground=S)), keys_of(own_motions(S, one)))


class CentresTest(unittest.TestCase):

    def searched(self, ground, tile, parts):
        """The centres among the points of a net of the oblong of the own lattice, by the own motions."""
        turns = [motion for motion in motions_between(ground, tile, ground, tile) if motion.factor() > 0]
        a, d = fraction(tile.lattice.a), fraction(tile.lattice.d)
        found = []
        for m, n in itertools.product(range(parts), repeat=2):
            point = point_of(a * m / parts, d * n / parts)
            order = len([motion for motion in turns if motion(point) - point in tile.lattice])
            if order > 1:
                found.append((pair(point), order))
        return sorted(found)

    def test_search(self):
        for ground, motions, many, orders in MADE:
            tile = turned_tile(ground, motions, ODD if many < 12 else ODD[:1])
            for shift in (ORIGIN, Point(Ratio(1, 4), Ratio(5, 12))):
                image = tile.moved(shifting(shift))
                found = centres(tile=image, ground=ground)
                self.assertIs(type(found), list)
                self.assertEqual([(type(one), type(one[0]), type(one[1])) for one in found], [(tuple, Point, int)] * len(found))
                told = [(pair(point), order) for point, order in found]
                self.assertEqual(told, self.searched(ground, image, 12))
                self.assertEqual(sorted(order for _, order in told), orders)

    def test_other_lattices(self):
        for ground, lattice in ((S, Lattice.oblong(3, 2)), (S, Lattice([Point(2, 0), Point(1, 2)])), (S, Lattice([Point(3, 1), Point(-1, 3)])),
                                (T, Lattice([Point(2, 1), Point(-1, 3)])), (T, Lattice.oblong(2, 1)), (Ground(2, 1, 2), Lattice.square(2))):
            for point in (ORIGIN, Point(HALF, 0)):
                tile = Tile(lattice, {"a": [point]})
                found = [(pair(point), order) for point, order in centres(ground, tile)]
                a, d = fraction(lattice.a), fraction(lattice.d)
                self.assertTrue(all(0 <= x < a and 0 <= y < d for (x, y), _ in found))
                self.assertEqual(found, sorted(set(found)))
                self.assertEqual(found, self.searched(ground, tile, 60 if lattice.d == 10 else 42 if lattice.d == 7 else 12))

    def test_none(self):
        self.assertEqual(centres(S, turned_tile(S, [], ODD)), [])
        self.assertEqual(centres(S, turned_tile(S, [Motion([[1, 0], [0, -1]], Point(HALF, 0))], ODD)), [])


class CommonTest(unittest.TestCase):

    def assertCommon(self, ground, one, other):
        """Common motions against those of both by a search, whose shifts may differ by own steps of each."""
        found = common_motions(ground, one, other)
        self.assertIs(type(found), list)
        both = one.lattice & other.lattice
        for motion in found:
            self.assertIs(type(motion), Motion)
            self.assertEqual(motion.stretch(ground), 1)
            self.assertEqual((one.moved(motion), other.moved(motion)), (one, other))
            self.assertEqual(both.rest(motion.shift), motion.shift)
        expected = []
        seconds = motions_between(ground, other, ground, other)
        for first in motions_between(ground, one, ground, one):
            for second in seconds:
                if first.table == second.table and first.shift - second.shift in one.lattice + other.lattice:
                    expected.append(first.table)
        self.assertEqual(sorted(keys_of([Motion(motion.table) for motion in found])), sorted(keys_of([Motion(table) for table in expected])))
        return len(found)

    def test_search(self):
        draw = Draw(10)
        counts = set()
        for ground, first, many, _ in MADE:
            one = turned_tile(ground, first, ODD if many < 12 else ODD[:1])
            for other in (one, one.moved(shifting(Point(HALF, 0))), Tile(Lattice.oblong(2, 1), {"a": [ORIGIN]}), Tile(Z, {"b": [Point(THIRD, THIRD)]}),
                          Tile(Lattice.square(THIRD), {"c": [draw.point(3)]}), one.moved(turn(ground, Point(2, 1)))):
                counts.add(self.assertCommon(ground, one, other))
                self.assertEqual(len(common_motions(ground, other, one)), len(common_motions(ground, one, other)))
        self.assertTrue({1, 2, 3, 4, 6, 8, 12} <= counts)

    def test_itself(self):
        for ground, motions, many, _ in MADE:
            tile = turned_tile(ground, motions, ODD if many < 12 else ODD[:1])
            self.assertEqual(keys_of(common_motions(ground, tile, tile)), keys_of(own_motions(ground, tile)))

    def test_shifts_of_both(self):
        """The shift is a step of neither own lattice alone, but lies in the oblong of their common part."""
        one, other = Tile(Lattice.oblong(2, 1), {"a": [ORIGIN]}), Tile(Lattice.oblong(3, 1), {"b": [Point(HALF, 0)]})
        found = common_motions(other=other, one=one, ground=S)
        self.assertEqual(keys_of(found), keys_of([STILL, Motion([[1, 0], [0, -1]]), Motion([[-1, 0], [0, 1]], Point(4, 0)),
                                                  Motion([[-1, 0], [0, -1]], Point(4, 0))]))
        other = Tile(Lattice.oblong(3, 1), {"b": [Point(Ratio(1, 3), 0)]})
        self.assertEqual(keys_of(common_motions(S, one, other)), keys_of([STILL, Motion([[1, 0], [0, -1]])]))

    def test_great_numbers(self):
        draw = Draw(11)
        begun = time.monotonic()
        for ground in (S, T):
            for size in (10 ** 30, 10 ** 120):
                lattice = Lattice.square(draw.ratio(size)).moved(turn(ground, draw.point(size)))
                tile = Tile(lattice, {"a": [draw.point(size)]})
                other = Tile(Lattice.square(draw.ratio(size)), {"a": [draw.point(size)]})
                found = own_motions(ground, tile)
                self.assertEqual(len(found), 8 if ground == S else 12)
                for motion in found:
                    self.assertEqual(tile.moved(motion), tile)
                self.assertEqual(len(centres(ground, tile)), 4 if ground == S else 6)
                for point, order in centres(ground, tile):
                    kept = [motion for motion in found if motion.factor() == 1 and motion(point) - point in lattice]
                    self.assertEqual(len(kept), order)
                for motion in common_motions(ground, tile, other):
                    self.assertEqual((tile.moved(motion), other.moved(motion)), (tile, other))
        self.assertLess(time.monotonic() - begun, 60)


if __name__ == "__main__":
    unittest.main()
