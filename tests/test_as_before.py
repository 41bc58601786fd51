"""[32], [37], [38], [64], [68], [69]: least bases, keys and own motions tell what they told before they were made faster.

The answers to drawn questions, also with numbers of a hundred figures, were written down as digests then.
"""

import hashlib
import unittest

from overfloors.bases import least_bases, shape_of
from overfloors.errors import FloorError
from overfloors.grounds import Ground
from overfloors.holes import clearance, holes
from overfloors.keys import alike, alike_pairs, least_key, pair_key
from overfloors.lattices import Lattice
from overfloors.layers import Layer
from overfloors.motions import Motion, stretching
from overfloors.near import gap, least_shifts, nearest
from overfloors.own import centres, common_motions, own_motions
from overfloors.points import Point
from overfloors.ratios import Ratio
from overfloors.tiles import Tile
from overfloors.turns import mirror, turn
from drawn import HUNDRED, Draw

GROUNDS = [
    Ground(1, 0, 1), Ground(1, 1, 1), Ground(2, 1, 3), Ground(3, -5, 7), Ground(1, 0, 3), Ground(10 ** 29 + 1, 3, 10 ** 28),
]
SIZES = [3, 5, 10 ** 20, HUNDRED]
DIGESTS = {
    3: "b430bf9f3ddd8be0469b62286203597b",
    5: "18b885c4feb59c99d4028174be5c3647",
    10 ** 20: "c6ac612a28a9144b1aa7ab4fca5bae09",
    HUNDRED: "a5dbcbf9865f0090ad8c7fbe65bfd4e6",
}


def shown(value):
    """A text that tells an answer."""
    if isinstance(value, (list, tuple)):
        return "[" + ",".join(shown(one) for one in value) + "]"
    if isinstance(value, Point):
        return f"({value.x},{value.y})"
    if isinstance(value, Motion):
        return f"motion{shown(value.table)}{shown(value.shift)}"
    if isinstance(value, Lattice):
        return f"lattice{shown([value.a, value.b, value.d])}"
    if isinstance(value, Layer):
        return f"layer{shown(value.point)}{shown(value.lattice)}"
    if value is None or isinstance(value, (int, str, Ratio)):
        return str(value)
    return f"base{shown([value.u, value.v, value.shape, value.lattice])}"


def lattice_of(draw, size):
    kind = draw.random.randrange(4)
    if kind == 0:
        return Lattice.square(draw.random.randint(1, 5))
    if kind == 1:
        return Lattice.oblong(draw.random.randint(1, 3), draw.random.randint(1, 3))
    return draw.lattice(size) if kind == 2 else draw.whole_lattice(size)


def tile_of(draw, size):
    """A tile of a few marks, many of them on halves, so that some tiles have own motions."""
    lattice = lattice_of(draw, size)
    while True:
        marks = {}
        for letter in ["a", "b", "cc"][:draw.random.randint(1, 3)]:
            marks[letter] = []
            for _ in range(draw.random.randint(1, 3)):
                half = Point(Ratio(draw.random.randint(0, 6), 2), Ratio(draw.random.randint(0, 6), 2))
                marks[letter].append(half if draw.random.randrange(3) > 0 else draw.point(size))
        try:
            return Tile(lattice, marks)
        except FloorError:
            continue


def answers(draw, size, ground):
    """The answers to one round of questions."""
    one, other = tile_of(draw, size), tile_of(draw, size)
    line = Point(draw.random.randint(1, 9), draw.integer(5))
    motion = turn(ground, line) if draw.random.randrange(2) else mirror(ground, line)
    motion = Motion(motion.table, draw.point(size))
    wide = stretching(Ratio(draw.random.randint(1, 9), draw.random.randint(1, 9)))
    image, beside, wider = one.moved(motion), other.moved(motion), one.moved(wide * motion)
    yield least_bases(ground, one.lattice), shape_of(ground, image.lattice)
    for mirrors in (True, False):
        for stretch in (True, False):
            yield [least_key(ground, tile, mirrors=mirrors, stretch=stretch) for tile in (one, image, wider)]
            yield alike(ground, one, ground, wider, mirrors=mirrors, stretch=stretch)
        yield pair_key(ground, one, other, mirrors=mirrors)
        yield alike_pairs(ground, one, other, ground, image, beside, mirrors=mirrors)
        yield alike_pairs(ground, one, other, ground, image, other, mirrors=mirrors)
    yield own_motions(ground, one), centres(ground, one), common_motions(ground, one, other), own_motions(ground, wider)
    first, second = Layer(draw.point(size), one.lattice), Layer(draw.point(size), other.lattice)
    point = draw.point(size)
    yield nearest(ground, first, point), gap(ground, [first], [second]), least_shifts(ground, first, second)
    yield holes(ground, one.lattice), clearance(ground, first, second), ground.measure(point), ground.pair(point, line)


def digest(size):
    """The digest of all answers with numbers up to a size."""
    draw = Draw(SIZES.index(size) + 170)
    found = hashlib.sha256()
    for _ in range(5):
        for ground in GROUNDS:
            for answer in answers(draw, size, ground):
                found.update(shown(answer).encode())
    return found.hexdigest()[:32]


class AsBeforeTest(unittest.TestCase):

    def test_digests(self):
        self.assertEqual({size: digest(size) for size in SIZES}, DIGESTS)

    def test_reported_case(self):
        """The lattice and the tiles of a report that these calls took long."""
        ground = Ground(2, 1, 3)
        lattice = Lattice([Point(Ratio(10 ** 12 - 7, 3), Ratio(123456789013, 3)), Point(0, Ratio(987654321011, 3))])
        tile = Tile(lattice, {
            "a": [Point(Ratio(1, 2), Ratio(3, 4))], "b": [Point(Ratio(8, 7), 2), Point(Ratio(22, 7), Ratio(5, 2))],
        })
        motion = stretching(Ratio(7, 3)) * turn(ground, Point(5, -2))
        image = tile.moved(motion)
        bases = least_bases(ground, image.lattice)
        self.assertEqual(len(bases), 2)
        self.assertTrue(all(base.is_least() and base.lattice == image.lattice for base in bases))
        self.assertEqual(bases[0].u, -bases[1].u)
        self.assertEqual(bases[0].v, -bases[1].v)
        self.assertTrue((bases[0].u.x, bases[0].u.y) < (bases[1].u.x, bases[1].u.y))
        self.assertEqual(least_key(ground, image, stretch=True), least_key(ground, tile, stretch=True))
        self.assertNotEqual(least_key(ground, image), least_key(ground, tile))
        self.assertTrue(tile.moved(alike(ground, tile, ground, image, stretch=True)) == image)
        self.assertEqual(len(own_motions(ground, image)), 1)
        self.assertEqual(centres(ground, image), [])


if __name__ == "__main__":
    unittest.main()
