"""[2], [37], [68]: least keys of tiles and of pairs, and the motions between them."""

import itertools
import time
import unittest

from overfloors.errors import Clash
from overfloors.grounds import Ground
from overfloors.keys import alike, alike_pairs, least_key, pair_key
from overfloors.lattices import Lattice
from overfloors.motions import Motion, shifting, stretching
from overfloors.points import Point
from overfloors.ratios import Ratio
from overfloors.tiles import Tile
from overfloors.turns import mirror, turn
from drawn import Draw, HUNDRED
from search import keys_of, motions_between

S, T = Ground(1, 0, 1), Ground(1, 1, 1)
GROUNDS = [S, T, Ground(1, 0, 3), Ground(2, 1, 2), Ground(2, 2, 3), Ground(3, -5, 7), Ground(1, 1, 6)]
Z = Lattice.square(1)
HALF = Ratio(1, 2)
ORIGIN = Point(0, 0)


def lattices():
    return [Z, Lattice.oblong(2, 1), Lattice([Point(2, 1), Point(-1, 2)]), Lattice([Point(1, 1), Point(0, 2)]),
            Lattice([Point(3, 1), Point(0, 2)])]


def drawn_tile(draw, lattice, letters="ab", many=2, parts=4):
    """A tile whose marks lie at fractions of a lattice."""
    first, second = lattice.rows()
    while True:
        marks = {letter: [first * Ratio(draw.integer(parts), parts) + second * Ratio(draw.integer(parts), parts)
                          for _ in range(draw.random.randint(1, many))] for letter in letters}
        try:
            return Tile(lattice, marks)
        except Clash:
            continue


def recoloured(tile):
    """The tile with the letter of one mark exchanged for another one, and with one mark moved."""
    marks = {letter: tile.marks(letter) for letter in tile.letters()}
    letter = tile.letters()[-1]
    point = marks[letter].pop()
    found = [Tile(tile.lattice, {**{key: points for key, points in marks.items() if points}, "zz": [point]})]
    marks[letter].append(point + tile.lattice.rows()[0] * Ratio(1, 29))
    return found + [Tile(tile.lattice, marks)]


def in_other_figures(ground, tile, table):
    """The ground and the tile with the points told by other coordinates: table takes these to the former ones."""
    motion = Motion(table)
    first, second = motion(Point(1, 0)), motion(Point(0, 1))
    figures = [number.top for number in (ground.measure(first), ground.pair(first, second), ground.measure(second))]
    return Ground(*figures), tile.moved(~motion)


class TileTest(unittest.TestCase):

    def assertAlike(self, ground, tile, other_ground, other):
        """Keys and motions against a search for motions, in all ways of being alike; the ways in which both are."""
        ways = set()
        for mirrors, stretch in itertools.product((True, False), repeat=2):
            expected = motions_between(ground, tile, other_ground, other, mirrors, stretch)
            one = least_key(ground, tile, mirrors=mirrors, stretch=stretch)
            two = least_key(other_ground, other, mirrors=mirrors, stretch=stretch)
            self.assertEqual((type(one), type(two)), (str, str))
            self.assertIs(one == two, bool(expected))
            told = alike(ground, tile, other_ground, other, mirrors=mirrors, stretch=stretch)
            if not expected:
                self.assertIsNone(told)
                continue
            ways.add((mirrors, stretch))
            self.assertIs(type(told), Motion)
            self.assertEqual(tile.moved(told), other)
            rest = Motion(told.table, other.lattice.rest(told.shift))
            self.assertIn(keys_of([rest])[0], keys_of(expected))
        return ways

    def test_example(self):
        one = Tile(Lattice([Point(2, 0), Point(0, 1)]), {"a": [ORIGIN]})
        other = Tile(Lattice([Point(1, 0), Point(0, 2)]), {"a": [Point(3, 1)]})
        self.assertEqual(least_key(S, one), least_key(S, other))
        self.assertEqual(least_key(S, one, mirrors=False), least_key(S, other, mirrors=False))
        self.assertIsNone(alike(S, one, S, Tile(other.lattice, {"b": [Point(3, 1)]})))
        self.assertIsNone(alike(S, Tile(one.lattice, {"b": [ORIGIN]}), S, other))
        small, great = Tile(Z, {"a": [ORIGIN]}), Tile(2 * Z, {"a": [ORIGIN]})
        self.assertIsNone(alike(S, small, S, great))
        self.assertIsNone(alike(S, small, S, great, mirrors=False))
        self.assertEqual(small.moved(alike(S, small, S, great, stretch=True)), great)
        self.assertNotEqual(least_key(S, small), least_key(S, great))
        self.assertEqual(least_key(S, small, stretch=True), least_key(S, great, stretch=True))

    def test_moved_tiles(self):
        draw = Draw(1)
        for ground in GROUNDS:
            for lattice in lattices():
                tile = drawn_tile(draw, lattice)
                motion = shifting(draw.point(5)) * turn(ground, Point(draw.integer(4), 3))
                self.assertIn((False, False), self.assertAlike(ground, tile, ground, tile.moved(motion)))
                motion = shifting(draw.point(5)) * mirror(ground, Point(draw.integer(4), 3))
                self.assertIn((True, False), self.assertAlike(ground, tile, ground, tile.moved(motion)))

    def test_only_by_a_mirror(self):
        """Tiles alike by a mirror, of which some have no mirror of their own."""
        draw = Draw(2)
        only = 0
        for ground in GROUNDS:
            for lattice in lattices():
                tile = drawn_tile(draw, lattice, "abc")
                image = tile.moved(mirror(ground, Point(2, 1)))
                ways = self.assertAlike(ground, tile, ground, image)
                only += ways == {(True, False), (True, True)}
        self.assertGreater(only, 15)

    def test_lattices_of_one_side(self):
        """All least bases of these lattices lie on one side, so mirrored ones are not directly alike."""
        tile = Tile(Lattice([Point(3, 0), Point(1, 5)]), {"a": [ORIGIN]})
        image = tile.moved(mirror(S, Point(1, 0)))
        self.assertEqual(self.assertAlike(S, tile, S, image), {(True, False), (True, True)})
        self.assertEqual(self.assertAlike(S, image, S, image), {(True, False), (True, True), (False, False), (False, True)})
        self.assertEqual(self.assertAlike(S, image, S, image.moved(turn(S, Point(3, 1)))), {(True, False), (True, True), (False, False), (False, True)})

    def test_only_by_stretching(self):
        draw = Draw(3)
        for ground in GROUNDS:
            for number in (2, Ratio(1, 3), -5):
                tile = drawn_tile(draw, draw.random.choice(lattices()))
                motion = turn(ground, Point(3, 1)) * stretching(number)
                self.assertEqual(self.assertAlike(ground, tile, ground, tile.moved(motion)), {(True, True), (False, True)})
        tile = drawn_tile(draw, Z, "abc")
        ways = self.assertAlike(S, tile, S, tile.moved(stretching(3) * mirror(S, Point(2, 1))))
        self.assertLessEqual({(True, True)}, ways)
        self.assertNotIn((True, False), ways)

    def test_stretched_by_no_square(self):
        """A motion may multiply the measures by 2, which no number does to lengths."""
        tile, other = Tile(Z, {"a": [ORIGIN]}), Tile(Lattice([Point(1, 1), Point(1, -1)]), {"a": [Point(HALF, 0)]})
        self.assertEqual(self.assertAlike(S, tile, S, other), {(True, True), (False, True)})
        self.assertEqual(alike(S, tile, S, other, stretch=True).stretch(S), 2)
        self.assertEqual(self.assertAlike(S, tile, Ground(2, 0, 2), tile), {(True, True), (False, True)})

    def test_nearly_alike(self):
        draw = Draw(4)
        unlike = 0
        for ground in GROUNDS:
            for lattice in lattices():
                tile = drawn_tile(draw, lattice)
                for other in recoloured(tile):
                    unlike += not self.assertAlike(ground, tile, ground, other)
        self.assertGreater(unlike, 50)

    def test_drawn_tiles(self):
        """Tiles with few possible marks, so that many are alike in one way and not in another."""
        draw = Draw(5)
        seen = set()
        for ground in (S, T, Ground(1, 0, 3)):
            tiles = [drawn_tile(draw, Lattice.oblong(2, 2), "ab", 2, 2) for _ in range(6)]
            tiles += [drawn_tile(draw, Lattice.oblong(3, 3), "ab", 2, 3) for _ in range(5)]
            for one, other in itertools.combinations(tiles, 2):
                seen.add(frozenset(self.assertAlike(ground, one, ground, other)))
        self.assertGreaterEqual(len(seen), 3)

    def test_other_grounds(self):
        """The same tile with points told by other coordinates, in a ground that measures it alike."""
        draw = Draw(6)
        for ground in GROUNDS:
            for table in ([[2, 0], [0, 1]], [[1, 3], [0, 1]], [[1, 2], [2, -1]], [[0, 1], [1, 0]], [[2, 1], [1, 3]]):
                tile = drawn_tile(draw, draw.random.choice(lattices()), "abc")
                other_ground, other = in_other_figures(ground, tile, table)
                other = other.moved(turn(other_ground, Point(1, 2)))
                ways = self.assertAlike(ground, tile, other_ground, other)
                direct = table[0][0] * table[1][1] > table[0][1] * table[1][0]
                self.assertIn((True, False), ways)
                if direct:
                    self.assertIn((False, False), ways)

    def test_unlike_grounds(self):
        tile = Tile(Z, {"a": [ORIGIN]})
        keys = [least_key(ground, tile) for ground in GROUNDS]
        self.assertEqual(len(set(keys)), len(keys))
        self.assertIsNone(alike(S, tile, T, tile, stretch=True))

    def test_told_otherwise(self):
        one = Tile(Lattice.oblong(4, 2), {"a": [ORIGIN, Point(2, 0)], "b": [Point(1, 1), Point(-1, 1)]})
        other = Tile(Lattice.oblong(2, 2), {"b": [Point(9, 9)], "a": [Point(4, 6)]})
        self.assertEqual(one, other)
        for mirrors, stretch in itertools.product((True, False), repeat=2):
            self.assertEqual(least_key(S, one, mirrors=mirrors, stretch=stretch), least_key(S, other, mirrors=mirrors, stretch=stretch))
        self.assertEqual(least_key(tile=one, ground=S), least_key(S, one, mirrors=True, stretch=False))
        self.assertIsNotNone(alike(other=other, other_ground=S, tile=one, ground=S))

    def test_letters_are_told_apart(self):
        points = [Point(HALF, 0), Point(0, HALF)]
        tiles = [Tile(Z, marks) for marks in ({"a": [ORIGIN]}, {"b": [ORIGIN]}, {"aa": [ORIGIN]}, {"a": [ORIGIN], "b": points[:1]},
                                              {"a": [ORIGIN], "b": points}, {"b": [ORIGIN], "a": points}, {"a": [ORIGIN] + points},
                                              {"a": [ORIGIN], "b": points[:1], "c": points[1:]}, {"ab": [ORIGIN], "b": points[:1]})]
        for one, other in itertools.product(tiles, repeat=2):
            self.assertIs(least_key(S, one) == least_key(S, other), one is other)
            self.assertIs(alike(S, one, S, other) is not None, one is other)

    def test_by_name_only(self):
        tile = Tile(Z, {"a": [ORIGIN]})
        for call in (lambda: least_key(S, tile, True), lambda: alike(S, tile, S, tile, True), lambda: pair_key(S, tile, tile, True),
                     lambda: alike_pairs(S, tile, tile, S, tile, tile, True)):
            with self.assertRaises(TypeError):
                call()


class PairTest(unittest.TestCase):

    def searched(self, ground, one, other, other_ground, third, fourth, mirrors):
        """Motions of both tiles with one table whose shifts differ by a sum of own steps of both."""
        found = []
        for first in motions_between(ground, one, other_ground, third, mirrors):
            for second in motions_between(ground, other, other_ground, fourth, mirrors):
                if first.table == second.table and first.shift - second.shift in third.lattice + fourth.lattice:
                    found.append(first.table)
        return found

    def assertPairs(self, ground, one, other, other_ground, third, fourth):
        ways = set()
        for mirrors in (True, False):
            expected = self.searched(ground, one, other, other_ground, third, fourth, mirrors)
            keys = pair_key(ground, one, other, mirrors=mirrors), pair_key(other_ground, third, fourth, mirrors=mirrors)
            self.assertEqual([type(key) for key in keys], [str, str])
            self.assertIs(keys[0] == keys[1], bool(expected))
            told = alike_pairs(ground, one, other, other_ground, third, fourth, mirrors=mirrors)
            if not expected:
                self.assertIsNone(told)
                continue
            ways.add(mirrors)
            self.assertIs(type(told), Motion)
            self.assertIn(told.table, expected)
            self.assertEqual((one.moved(told), other.moved(told)), (third, fourth))
        return ways

    def test_moved_pairs(self):
        draw = Draw(10)
        for ground in GROUNDS:
            for lattice in lattices()[:4]:
                one, other = drawn_tile(draw, lattice, "a"), drawn_tile(draw, draw.random.choice(lattices()), "ab")
                motion = shifting(draw.point(5)) * turn(ground, Point(draw.integer(4), 3))
                ways = self.assertPairs(ground, one, other, ground, one.moved(motion), other.moved(motion))
                self.assertEqual(ways, {True, False})
                motion = shifting(draw.point(5)) * mirror(ground, Point(draw.integer(4), 3))
                self.assertIn(True, self.assertPairs(ground, one, other, ground, one.moved(motion), other.moved(motion)))

    def test_own_steps_of_each(self):
        """Moving one of the tiles by its own steps, or by those of the other one, changes nothing; other steps do."""
        one, other = Tile(Lattice.oblong(4, 1), {"a": [ORIGIN]}), Tile(Lattice.oblong(6, 1), {"b": [Point(1, HALF)]})
        for step in (2, 4, 6, -8, 0):
            self.assertEqual(self.assertPairs(S, one, other, S, one.moved(shifting(Point(step, 0))), other), {True, False})
        for step in (1, 3, HALF):
            self.assertEqual(self.assertPairs(S, one, other, S, one.moved(shifting(Point(step, 0))), other), set())

    def test_one_by_one_but_not_together(self):
        one, other = Tile(Z, {"a": [ORIGIN]}), Tile(Z, {"b": [Point(Ratio(1, 3), 0)]})
        moved = Tile(Z, {"b": [Point(Ratio(1, 4), 0)]})
        self.assertIsNotNone(alike(S, other, S, moved))
        self.assertEqual(self.assertPairs(S, one, other, S, one, moved), set())
        slant = Tile(Z, {"b": [Point(Ratio(1, 3), Ratio(1, 7))]})
        image = Tile(Z, {"b": [Point(Ratio(1, 7), Ratio(1, 3))]})
        self.assertEqual(self.assertPairs(S, one, slant, S, one, image), {True})
        turned = Tile(Lattice([Point(Ratio(3, 5), Ratio(4, 5)), Point(Ratio(-4, 5), Ratio(3, 5))]), {"b": [ORIGIN]})
        straight = Tile(Z, {"b": [ORIGIN]})
        self.assertIsNotNone(alike(S, straight, S, turned))
        self.assertEqual(self.assertPairs(S, one, straight, S, one, turned), set())
        self.assertEqual(self.assertPairs(S, one, turned, S, one, turned.moved(mirror(S, Point(1, 0)))), {True})
        thirds = turned.moved(shifting(Point(Ratio(1, 3), Ratio(1, 7))))
        self.assertEqual(self.assertPairs(S, one, thirds, S, one, thirds.moved(mirror(S, Point(1, 0)))), {True})

    def test_which_way_the_lattices_are_turned(self):
        """The first tile has no own motion, the second one is turned against it to the left or to the right."""
        one = Tile(Z, {"a": [ORIGIN], "b": [Point(Ratio(1, 3), 0)], "c": [Point(0, Ratio(1, 5))]})
        for ground in (S, Ground(1, 0, 3)):
            for lattice in (Z, Lattice.oblong(1, 2)):
                other = Tile(lattice, {"b": [ORIGIN]}).moved(turn(ground, Point(3, 1)))
                images = [other.moved(mirror(ground, Point(1, 0))), other.moved(mirror(ground, Point(0, 1)))]
                for image in images:
                    self.assertIsNotNone(alike(ground, other, ground, image))
                    self.assertEqual(self.assertPairs(ground, one, other, ground, one, image), set())
                self.assertEqual(self.assertPairs(ground, one, images[0], ground, one, images[1]), {True, False})

    def test_the_order_of_the_pair(self):
        one, other = Tile(Z, {"a": [ORIGIN]}), Tile(Z, {"a": [Point(Ratio(1, 3), 0)]})
        self.assertEqual(self.assertPairs(S, one, other, S, other, one), {True, False})
        other = Tile(2 * Z, {"a": [Point(Ratio(1, 3), 0)]})
        self.assertEqual(self.assertPairs(S, one, other, S, other, one), set())

    def test_drawn_pairs(self):
        draw = Draw(11)
        seen = set()
        for ground in (S, T):
            tiles = [drawn_tile(draw, Lattice.square(2), "a", 1, 4), drawn_tile(draw, Lattice.oblong(2, 1), "a", 1, 2)]
            pairs = [(draw.random.choice(tiles).moved(shifting(Point(Ratio(draw.integer(2), 4), Ratio(draw.integer(2), 4)))),
                      drawn_tile(draw, draw.random.choice((Z, Lattice.oblong(1, 2))), "b", 1, 2)) for _ in range(9)]
            for (one, other), (third, fourth) in itertools.combinations(pairs, 2):
                seen.add((frozenset(self.assertPairs(ground, one, other, ground, third, fourth))))
        self.assertGreaterEqual(len(seen), 2)

    def test_other_grounds(self):
        draw = Draw(12)
        for ground in GROUNDS[:4]:
            for table in ([[2, 0], [0, 1]], [[1, 3], [0, 1]], [[0, 1], [1, 0]]):
                one, other = drawn_tile(draw, Z, "ab"), drawn_tile(draw, Lattice.oblong(2, 1), "a")
                other_ground, third = in_other_figures(ground, one, table)
                fourth = in_other_figures(ground, other, table)[1]
                self.assertIn(True, self.assertPairs(ground, one, other, other_ground, third, fourth))
                self.assertIsNotNone(alike_pairs(fourth=fourth, third=third, other_ground=other_ground, other=other, one=one, ground=ground))
                self.assertEqual(pair_key(other=other, one=one, ground=ground), pair_key(other_ground, third, fourth))


class LimitsTest(unittest.TestCase):

    def test_great_numbers(self):
        draw = Draw(20)
        begun = time.monotonic()
        for ground, sizes in ((S, (10 ** 30, 10 ** 120)), (Ground(10 ** 30 - 1, 10 ** 30 - 3, 10 ** 30 - 1), (10 ** 30,))):
            for size in sizes:
                tile = Tile(draw.lattice(size), {letter: [draw.point(size) for _ in range(12)] for letter in "ab"})
                other = Tile(draw.lattice(size), {"a": [draw.point(size)]})
                motion = shifting(draw.point(size)) * mirror(ground, draw.point(size))
                image, other_image = tile.moved(motion), other.moved(motion)
                self.assertEqual(least_key(ground, tile), least_key(ground, image))
                self.assertNotEqual(least_key(ground, tile, mirrors=False), least_key(ground, image, mirrors=False))
                self.assertEqual(tile.moved(alike(ground, tile, ground, image)), image)
                self.assertEqual(pair_key(ground, tile, other), pair_key(ground, image, other_image))
                found = alike_pairs(ground, tile, other, ground, image, other_image)
                self.assertEqual((tile.moved(found), other.moved(found)), (image, other_image))
                moved = other_image.moved(shifting(Point(Ratio(1, HUNDRED), 0)))
                self.assertIs(pair_key(ground, tile, other) == pair_key(ground, image, moved),
                              alike_pairs(ground, tile, other, ground, image, moved) is not None)
        self.assertLess(time.monotonic() - begun, 60)


if __name__ == "__main__":
    unittest.main()
