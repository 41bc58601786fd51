"""[2], [36], [44], [67]: tiles."""

import itertools
import time
import unittest

from overfloors.errors import BadLetter, BadPoint, Clash, NoLetter, NoMarks, TooMany
from overfloors.grounds import Ground
from overfloors.lattices import Lattice
from overfloors.layers import Layer
from overfloors.motions import Motion, shifting, stretching
from overfloors.points import Point
from overfloors.ratios import Ratio
from overfloors.tiles import Tile
from overfloors.turns import mirror, turn
from drawn import Draw, HUNDRED, Other, members, no_integers, no_points, pair

S, T = Ground(1, 0, 1), Ground(1, 1, 1)
Z = Lattice.square(1)
HALF = Ratio(1, 2)
ORIGIN = Point(0, 0)
WORDS = ["a", "z", "ab", "abcdefgh", "zzzzzzzz"]


def no_letters():
    """Values that are no letters and may stand as keys of a dict."""
    return [None, True, 1, 0, "", "A", "a1", "a b", "abcdefghi", "ab.", " a", "\u00e4", "a\n", (), (1, "a"), ("a",), -3]


def letters_on(tile, size):
    """A dict from the whole places of a square to their letters."""
    return {(x, y): tile.letter_at(Point(x, y)) for x, y in itertools.product(range(size), repeat=2)}


def whole_tile(draw, lattice, letters, many):
    """A tile with whole points, told anew until no two letters clash."""
    while True:
        try:
            return Tile(lattice, {letter: [draw.whole_point(6) for _ in range(many)] for letter in letters})
        except Clash:
            continue


class OwnLatticeTest(unittest.TestCase):

    def test_example(self):
        tile = Tile(Lattice([Point(2, 0), Point(0, 1)]), {"a": [Point(0, 0), Point(1, 0)]})
        self.assertEqual(tile, Tile(Z, {"a": [Point(5, 7)]}))
        self.assertEqual(tile.lattice, Z)

    def test_own_steps(self):
        """All steps by which each letter is at a place exactly if it is at the place moved."""
        draw = Draw(1)
        indexes = set()
        for _ in range(40):
            fine = draw.narrow_lattice(draw.random.choice((2, 3, 4, 6)))
            rows = fine.rows()
            first, second = draw.random.choice(((1, 1), (2, 1), (1, 2), (2, 2)))
            lattice = Lattice([rows[0] * first, rows[1] * second])
            marks = {letter: [point + rows[0] * m + rows[1] * n for point in points for m in range(first) for n in range(second)]
                     for letter, points in (("a", [ORIGIN]), ("b", [draw.whole_point(6) + Point(0, HALF) for _ in range(2)]))}
            marks["b"] = marks["b"][:draw.random.choice((8, 8, 2, 1))]
            tile = Tile(lattice, marks)
            at = {(x, y): tile.letter_at(Point(Ratio(x), Ratio(y, 2))) for x, y in itertools.product(range(24), range(48))}
            steps = [(p, q) for p, q in itertools.product(range(24), repeat=2)
                     if all(at[x, y] == at[(x + p) % 24, (y + 2 * q) % 48] for x, y in at)]
            self.assertEqual(members(tile.lattice, 24), set(steps))
            self.assertLessEqual(lattice, tile.lattice)
            indexes.add(tile.lattice.index_of(lattice))
        self.assertEqual(indexes, {1, 2, 4})

    def test_points_told_twice(self):
        lattice = Lattice.oblong(3, 2)
        once = Tile(lattice, {"a": [Point(1, 0)], "b": [ORIGIN, Point(0, 1)]})
        self.assertEqual(Tile(lattice, {"a": [Point(1, 0), Point(1, 0), Point(4, -2)], "b": [Point(0, 1), ORIGIN, Point(3, 3)]}), once)
        self.assertEqual(once.marks("a"), [Point(1, 0)])
        self.assertEqual(Tile(lattice, {"a": [Point(1, 0)] * 24}), Tile(lattice, {"a": [Point(1, 0)]}))

    def test_finer_and_coarser(self):
        """Told by a lattice within the own one, with all points of its greater cell."""
        draw = Draw(2)
        for _ in range(20):
            lattice = draw.narrow_lattice(6)
            tile = whole_tile(draw, lattice, ["a", "b"], 2)
            rows = tile.lattice.rows()
            for first, second in ((2, 1), (1, 3), (2, 2)):
                coarse = Lattice([rows[0] * first, rows[1] * second])
                marks = {letter: [point + rows[0] * m + rows[1] * n for point in tile.marks(letter)
                                  for m in range(first) for n in range(second)] for letter in tile.letters()}
                if sum(len(points) for points in marks.values()) <= 24:
                    self.assertEqual(Tile(coarse, marks), tile)
                    self.assertEqual(Tile(coarse, marks).lattice, tile.lattice)

    def test_own_steps_of_a_letter_alone_do_not_count(self):
        lattice = Lattice.oblong(2, 1)
        tile = Tile(lattice, {"a": [ORIGIN, Point(1, 0)], "b": [Point(HALF, 0)]})
        self.assertEqual(tile.lattice, lattice)
        tile = Tile(lattice, {"b": [ORIGIN, Point(1, 0)], "a": [Point(HALF, 0)]})
        self.assertEqual(tile.lattice, lattice)
        tile = Tile(lattice, {"a": [ORIGIN, Point(1, 0)], "b": [Point(HALF, 0), Point(HALF + 1, 0)]})
        self.assertEqual(tile.lattice, Z)

    def test_twenty_four(self):
        points = [Point(x, y) for x, y in itertools.product(range(6), range(4))]
        self.assertEqual(Tile(Lattice.oblong(6, 4), {"a": points}).lattice, Z)
        self.assertEqual(Tile(Lattice.oblong(6, 4), {"a": points[:12], "b": points[12:]}).lattice, Lattice.oblong(6, 1))
        self.assertEqual(Tile(Lattice.oblong(6, 4), {"a": points[1:]}).lattice, Lattice.oblong(6, 4))


class EqualTest(unittest.TestCase):

    def test_equal(self):
        lattice = Lattice.oblong(3, 2)
        one = Tile(lattice, {"a": [Point(1, 0)], "b": [ORIGIN, Point(0, 1)]})
        self.assertIs(one == Tile(lattice, {"b": [Point(3, 1), Point(-3, 2)], "a": (Point(4, 2),)}), True)
        self.assertIs(one != Tile(lattice, {"b": [Point(3, 1), Point(-3, 2)], "a": [Point(4, 2)]}), False)
        for other in (Tile(lattice, {"a": [Point(1, 0)], "b": [ORIGIN]}), Tile(lattice, {"b": [Point(1, 0)], "a": [ORIGIN, Point(0, 1)]}),
                      Tile(lattice, {"a": [Point(1, 0)], "c": [ORIGIN, Point(0, 1)]}),
                      Tile(lattice, {"a": [Point(1, HALF)], "b": [ORIGIN, Point(0, 1)]}),
                      Tile(Lattice.oblong(3, 4), {"a": [Point(1, 0)], "b": [ORIGIN, Point(0, 1)]}),
                      one.moved(shifting(Point(1, 0))), None, 1, "a", {}, lattice, ORIGIN, Other()):
            self.assertIs(one == other, False)
            self.assertIs(other == one, False)
            self.assertIs(one != other, True)

    def test_copies(self):
        points = [Point(1, 0)]
        marks = {"b": points, "a": [ORIGIN]}
        tile = Tile(Lattice.square(2), marks)
        self.assertEqual((list(marks), points, marks["b"] is points), (["b", "a"], [Point(1, 0)], True))
        points.append(Point(0, 1))
        marks["c"] = [Point(1, 1)]
        self.assertEqual(tile, Tile(Lattice.square(2), {"a": [ORIGIN], "b": [Point(1, 0)]}))
        tile.letters().append("c")
        tile.marks("a").append(None)
        tile.layers_of("a").append(None)
        self.assertEqual((tile.letters(), tile.marks("a"), len(tile.layers_of("a"))), (["a", "b"], [ORIGIN], 1))


class ToldTest(unittest.TestCase):

    def test_letters(self):
        tile = Tile(marks={word: [Point(at, 0)] for at, word in enumerate(WORDS[::-1])}, lattice=Lattice.square(9))
        self.assertEqual(tile.letters(), ["a", "ab", "abcdefgh", "z", "zzzzzzzz"])
        for at, word in enumerate(WORDS[::-1]):
            self.assertEqual(tile.marks(word), [Point(at, 0)])

    def test_marks_and_layers(self):
        lattice = Lattice([Point(3, 1), Point(0, 4)])
        tile = Tile(lattice, {"b": [Point(5, 5), Point(0, 3), Point(-1, -1), Point(0, 1)], "a": [Point(HALF, 9)]})
        marks = tile.marks(letter="b")
        self.assertIs(type(marks), list)
        self.assertEqual([pair(point) for point in marks], sorted({pair(tile.lattice.rest(point)) for point in
                                                                  (Point(5, 5), Point(0, 3), Point(-1, -1), Point(0, 1))}))
        layers = tile.layers_of(letter="b")
        self.assertIs(type(layers), list)
        self.assertEqual(layers, [Layer(point, lattice) for point in marks])
        self.assertEqual(tile.layers_of("a"), [Layer(Point(HALF, 9), lattice)])

    def test_marks_in_the_oblong_of_the_own_lattice(self):
        tile = Tile(Lattice.oblong(4, 2), {"a": [Point(1, 1), Point(3, 1)], "b": [ORIGIN, Point(2, 0)]})
        self.assertEqual(tile.lattice, Lattice.oblong(2, 2))
        self.assertEqual((tile.marks("a"), tile.marks("b")), ([Point(1, 1)], [ORIGIN]))
        self.assertEqual(tile.layers_of("a"), [Layer(Point(1, 1), Lattice.square(2))])

    def test_letter_at(self):
        draw = Draw(10)
        for size in (5, 10 ** 30, HUNDRED):
            lattice = draw.lattice(size)
            points = [draw.point(size) for _ in range(4)]
            tile = Tile(lattice, {"a": points[:2], "b": points[2:]})
            for letter, point in zip("aabb", points):
                for _ in range(3):
                    self.assertEqual(tile.letter_at(point=point + draw.member(lattice, size)), letter)
                    self.assertEqual(tile.letter_at(point + draw.member(lattice, size) + Point(Ratio(1, 7 * size * size + 1), 0)), None)
        tile = Tile(Z, {"a": [ORIGIN]})
        self.assertEqual((tile.letter_at(Point(7, -9)), tile.letter_at(Point(HALF, 0))), ("a", None))

    def test_no_letter(self):
        tile = Tile(Z, {"a": [ORIGIN], "abc": [Point(HALF, 0)]})
        for value in no_integers() + ["b", "A", "", "ab", 0, Ratio(1, 2), tile, S, ["a"], ("a",)]:
            if value == "ab" or value != "a":
                for call in (tile.marks, tile.layers_of):
                    with self.assertRaises(NoLetter) as held:
                        call(value)
                    self.assertIs(held.exception.letter, value)

    def test_no_point(self):
        tile = Tile(Z, {"a": [ORIGIN]})
        for value in no_points() + [tile, S]:
            with self.assertRaises(BadPoint) as held:
                tile.letter_at(value)
            self.assertIs(held.exception.value, value)


class MovedTest(unittest.TestCase):

    def test_moved(self):
        draw = Draw(20)
        motions = [turn(S, Point(2, 1)), mirror(S, Point(1, 3)), turn(T, Point(2, 1)), shifting(draw.point(5)), stretching(Ratio(2, 3)),
                   stretching(-HUNDRED), Motion([[1, 2], [0, 3]], Point(1, HALF)), shifting(Point(1, 1)) * mirror(T, Point(1, 4))]
        for motion in motions:
            lattice = draw.narrow_lattice(6)
            tile = whole_tile(draw, lattice, ["a", "b"], 3)
            image = tile.moved(motion=motion)
            self.assertIs(type(image), Tile)
            self.assertEqual(image.lattice, tile.lattice.moved(motion))
            self.assertEqual(image.letters(), tile.letters())
            for x, y in itertools.product(range(-6, 7), repeat=2):
                self.assertEqual(image.letter_at(motion(Point(x, y))), tile.letter_at(Point(x, y)))
            self.assertEqual(image.moved(~motion), tile)
            self.assertIs(image == tile, all(image.letter_at(Point(x, y)) == tile.letter_at(Point(x, y))
                                             for x, y in itertools.product(range(12), repeat=2)) and image.lattice == tile.lattice)

    def test_own_steps_move_nothing(self):
        tile = Tile(Lattice.oblong(3, 2), {"a": [Point(1, 0)], "b": [ORIGIN, Point(0, 1)]})
        self.assertEqual(tile.moved(shifting(Point(9, -4))), tile)
        self.assertNotEqual(tile.moved(shifting(Point(1, 0))), tile)


class ErrorsTest(unittest.TestCase):

    def assertTold(self, error, field, value, marks, lattice=Z):
        with self.assertRaises(error) as held:
            Tile(lattice, marks)
        if field:
            self.assertIs(getattr(held.exception, field), value)

    def test_letters(self):
        for value in no_letters():
            self.assertTold(BadLetter, "value", value, {value: [ORIGIN]})
            self.assertTold(BadLetter, "value", value, {"a": [ORIGIN], value: [HALF]})
            self.assertTold(BadLetter, "value", value, {"a": [], value: []})
            self.assertTold(BadLetter, "value", value, {"a": [None], value: [ORIGIN] * 30, "b": []})
        for word in WORDS:
            self.assertEqual(Tile(Z, {word: [ORIGIN]}).letters(), [word])

    def test_no_marks(self):
        for marks in ({}, {"a": []}, {"a": (), "b": [ORIGIN]}, {"a": [None], "b": []}, {"a": [ORIGIN] * 30, "b": []},
                      {"a": [ORIGIN], "b": [ORIGIN], "c": []}):
            self.assertTold(NoMarks, None, None, marks)

    def test_points(self):
        for value in no_points() + [S]:
            self.assertTold(BadPoint, "value", value, {"a": [value]})
            self.assertTold(BadPoint, "value", value, {"b": [None], "a": [ORIGIN, value, None]})
            self.assertTold(BadPoint, "value", value, {"b": [value], "a": [ORIGIN]})
            self.assertTold(BadPoint, "value", value, {"a": [ORIGIN] * 30 + [value]})
            self.assertTold(BadPoint, "value", value, {"a": [ORIGIN], "b": [ORIGIN, value]})

    def test_too_many(self):
        for marks in ({"a": [ORIGIN] * 25}, {"a": [ORIGIN] * 12, "b": [ORIGIN] * 13}, {"a": [ORIGIN] * 24, "b": [Point(HALF, 0)]}):
            self.assertTold(TooMany, "most", 24, marks)
        Tile(Z, {"a": [ORIGIN] * 24})
        Tile(Z, {"a": [ORIGIN] * 12, "b": [Point(HALF, 0)] * 12})

    def test_clash(self):
        two = Point(HALF, 0)
        for marks, expected in (
            ({"a": [ORIGIN], "b": [ORIGIN]}, ("a", "b")), ({"b": [ORIGIN], "a": [Point(5, 5)]}, ("a", "b")),
            ({"c": [ORIGIN, two], "b": [ORIGIN], "a": [two]}, ("a", "c")), ({"c": [ORIGIN], "b": [ORIGIN], "a": [ORIGIN]}, ("a", "b")),
            ({"b": [two], "c": [two], "a": [ORIGIN], "d": [ORIGIN]}, ("a", "d")),
            ({"a": [ORIGIN], "ab": [two], "b": [two, ORIGIN]}, ("a", "b")), ({"a": [Point(9, 9)], "ab": [Point(-9, 0)]}, ("a", "ab")),
            ({"a": [ORIGIN, two], "c": [ORIGIN], "b": [two]}, ("a", "b")), ({"a": [two, ORIGIN], "c": [two], "b": [ORIGIN]}, ("a", "b")),
            ({"d": [ORIGIN, two], "b": [ORIGIN], "c": [two], "a": [Point(0, HALF)]}, ("b", "d")),
        ):
            with self.assertRaises(Clash) as held:
                Tile(Z, marks)
            self.assertEqual((held.exception.letter, held.exception.other), expected)
        with self.assertRaises(Clash):
            Tile(Lattice.square(HUNDRED), {"a": [ORIGIN], "b": [Point(HUNDRED * HUNDRED, -HUNDRED)]})
        Tile(Lattice.square(HUNDRED), {"a": [ORIGIN], "b": [Point(HUNDRED * HUNDRED + 1, -HUNDRED)]})


class LimitsTest(unittest.TestCase):

    def test_great_numbers(self):
        draw = Draw(30)
        begun = time.monotonic()
        for size in (10 ** 30, 10 ** 120):
            lattice = draw.lattice(size)
            first, second = lattice.rows()
            points = [first * Ratio(m, 4) + second * Ratio(n, 3) for m, n in itertools.product(range(4), range(3))]
            tile = Tile(lattice, {"a": points, "b": [point + draw.member(lattice, size) + first * Ratio(1, 7) for point in points]})
            self.assertEqual(tile.lattice, Lattice([first * Ratio(1, 4), second * Ratio(1, 3)]))
            self.assertEqual([len(tile.marks(letter)) for letter in tile.letters()], [1, 1])
            tile = Tile(lattice, {"a": [draw.point(size) for _ in range(24)]})
            self.assertEqual((tile.lattice, len(tile.marks("a"))), (lattice, 24))
        self.assertLess(time.monotonic() - begun, 20)


if __name__ == "__main__":
    unittest.main()
