"""[44], [74]: floors."""

import unittest
from fractions import Fraction

from overfloors.errors import BadLetter, NoLetter, Overlap, TooMany
from overfloors.floors import Floor, meetings
from overfloors.lattices import Lattice
from overfloors.layers import Layer
from overfloors.motions import Motion
from overfloors.places import Places
from overfloors.points import Point
from overfloors.ratios import Ratio
from drawn import HUNDRED, Draw, columns, fraction, nested, no_points, places

SIZE = 12
BOARD = Floor([("a", columns(2)), ("b", columns(2, 1))])
ROWS = Floor([("b", columns(3, 1))])


def no_letters():
    """Values that are no letters."""
    return [
        None, True, False, 0, 1, "", "A", "aB", "a1", "abcdefghi", " a", "a b", "\u00e4", "a\n", b"a", ["a"], ("a",), {"a": 1},
        {}, (), [], nested(20), Ratio(1), Point(1, 2), columns(2), Places(), Floor([]),
    ]


def drawn_floor(draw, many, letters="abc", indexes=(2, 3, 4, 6, 12)):
    """A floor of at most so many small layers, and what it lays in the square of SIZE."""
    laid, cells = [], {}
    for _ in range(40):
        layer = draw.narrow_layer(indexes)
        held = places(layer, SIZE)
        if len(laid) < many and not held & set(cells):
            letter = draw.random.choice(letters)
            laid.append((letter, layer))
            cells.update({place: letter for place in held})
    return Floor(laid), cells


class FloorTest(unittest.TestCase):

    def test_example(self):
        self.assertEqual(BOARD.letters(), ("a", "b"))
        self.assertEqual(BOARD.letter_at(Point(3, 4)), "b")
        self.assertEqual(meetings(BOARD, ROWS), {("a", "b"): Ratio(1, 6), ("b", "b"): Ratio(1, 6)})
        self.assertEqual((BOARD & ROWS).letter_at(Point(1, 0)), "b")
        self.assertEqual(ROWS.renamed({"b": "z", "q": "x"}).letters(), ("z",))
        self.assertEqual(BOARD.without("a").letters(), ("b",))

    def test_laid(self):
        told = [["b", columns(2)], ("a", columns(2, 1))]
        floor = Floor(told)
        told.pop()
        told[0][0] = "z"
        self.assertEqual(floor.laid, (("b", columns(2)), ("a", columns(2, 1))))
        self.assertTrue(all(isinstance(one, tuple) for one in floor.laid))
        self.assertEqual(Floor(laid=floor.laid).laid, floor.laid)
        self.assertEqual(floor.letters(), ("a", "b"))
        self.assertEqual(Floor([]).laid, ())
        self.assertEqual(Floor([("abcdefgh", columns(2))]).letters(), ("abcdefgh",))

    def test_wrong_letters(self):
        for value in no_letters():
            for laid in ([(value, columns(2))], [("a", columns(2)), (value, columns(2))],
                         [("a", columns(2))] * 7 + [(value, columns(2)), ("A", columns(2))]):
                with self.assertRaises(BadLetter) as caught:
                    Floor(laid)
                self.assertIs(caught.exception.value, value)

    def test_too_many_and_overlap(self):
        seven = [("a", columns(7, first)) for first in range(7)]
        for laid in (seven, [("a", columns(2))] * 7):
            with self.assertRaises(TooMany) as caught:
                Floor(laid)
            self.assertEqual(caught.exception.most, 6)
        self.assertEqual(len(Floor(seven[:6]).laid), 6)
        for laid, expected in [
            ([columns(2), columns(2)], (0, 1)), ([columns(2), columns(2, 1), columns(4, 2), columns(3)], (0, 2)),
            ([columns(4), columns(4, 1), columns(4, 2), columns(4, 3), columns(2, 1), columns(2)], (1, 4)),
            ([columns(6, 1), columns(6, 2), columns(6, 3), columns(3, 2)], (1, 3)),
        ]:
            with self.assertRaises(Overlap) as caught:
                Floor([("a", layer) for layer in laid])
            self.assertEqual((caught.exception.first, caught.exception.second), expected)

    def test_walk(self):
        draw = Draw(110)
        for _ in range(60):
            floor, cells = drawn_floor(draw, draw.random.randint(0, 6))
            self.assertEqual(floor.letters(), tuple(sorted(set(cells.values()))))
            for x in range(SIZE):
                for y in range(SIZE):
                    self.assertEqual(floor.letter_at(Point(x, y)), cells.get((x, y)))
            self.assertIsNone(floor.letter_at(Point(Ratio(1, 2), 0)))
            for letter in floor.letters():
                found = floor.places(letter=letter)
                self.assertEqual(list(found.layers), [layer for one, layer in floor.laid if one == letter])
                expected = Fraction(len([1 for one in cells.values() if one == letter]), SIZE * SIZE)
                self.assertEqual(fraction(found.thick()), expected)
                thick = floor.thick_of(letter)
                self.assertIsInstance(thick, Ratio)
                self.assertEqual(fraction(thick), expected)
            self.assertEqual(list(floor.places().layers), [layer for _, layer in floor.laid])
            self.assertTrue(floor.places() == floor.places(None))

    def test_no_letter(self):
        for value in no_letters() + ["c", "ab"]:
            self.assertIsInstance(BOARD.thick_of(value), Ratio)
            self.assertEqual(BOARD.thick_of(letter=value), 0)
            with self.assertRaises(NoLetter) as caught:
                BOARD.without(value)
            self.assertIs(caught.exception.letter, value)
            if value is not None:
                for floor in (BOARD, Floor([])):
                    with self.assertRaises(NoLetter) as caught:
                        floor.places(value)
                    self.assertIs(caught.exception.letter, value)
        self.assertTrue(Floor([]).places() == Places())

    def test_without(self):
        floor = Floor([("a", columns(4)), ("b", columns(4, 1)), ("a", columns(4, 2))])
        self.assertEqual(floor.without("a").laid, (("b", columns(4, 1)),))
        self.assertEqual(floor.without(letter="b").laid, (("a", columns(4)), ("a", columns(4, 2))))
        self.assertEqual(ROWS.without("b").laid, ())

    def test_renamed(self):
        floor = Floor([("c", columns(4)), ("b", columns(4, 1)), ("a", columns(4, 2))])
        names = {"a": "b", "b": "a", "x": 5, 7: "no"}
        found = floor.renamed(names)
        self.assertEqual([letter for letter, _ in found.laid], ["c", "a", "b"])
        self.assertEqual([layer for _, layer in found.laid], [layer for _, layer in floor.laid])
        self.assertEqual(names, {"a": "b", "b": "a", "x": 5, 7: "no"})
        self.assertEqual(floor.renamed(names={"a": "c", "b": "c"}).letters(), ("c",))
        self.assertTrue(floor.renamed({}) == floor)
        for value in no_letters():
            for names in ({"b": value, "a": "A"}, {"a": 3, "b": value}, {"c": "d", "b": value, "a": value}):
                with self.assertRaises(BadLetter) as caught:
                    floor.renamed(names)
                self.assertIs(caught.exception.value, value)

    def test_moved(self):
        draw = Draw(111)
        motion = Motion([[Ratio(2, 3), 1], [HUNDRED, Ratio(5, 7)]], Point(Ratio(1, 9), -4))
        for _ in range(20):
            floor, cells = drawn_floor(draw, 6)
            away = draw.point(9)
            image, shifted = floor.moved(motion=motion), floor.shifted(point=away)
            self.assertEqual([letter for letter, _ in image.laid], [letter for letter, _ in floor.laid])
            self.assertEqual([layer for _, layer in image.laid], [layer.moved(motion) for _, layer in floor.laid])
            self.assertEqual([layer for _, layer in shifted.laid], [layer.shifted(away) for _, layer in floor.laid])
            for x, y in [(0, 0), (3, 7), (11, 2)]:
                self.assertEqual(image.letter_at(motion(Point(x, y))), cells.get((x, y)))
                self.assertEqual(shifted.letter_at(Point(x, y) + away), cells.get((x, y)))
            self.assertTrue(image.moved(~motion) == floor)


class EqualTest(unittest.TestCase):

    def test_told_otherwise(self):
        parted = Floor([("b", columns(4, 3)), ("a", columns(6)), ("b", columns(4, 1)), ("a", columns(6, 2)), ("a", columns(6, 4))])
        self.assertTrue(parted == BOARD and BOARD == parted)
        self.assertFalse(parted != BOARD)
        self.assertFalse(parted.renamed({"a": "b", "b": "a"}) == BOARD)
        self.assertFalse(parted.renamed({"a": "c"}) == BOARD)
        self.assertFalse(parted == parted.shifted(Point(1, 0)))
        self.assertTrue(parted.shifted(Point(2, 0)) == parted)
        six = Floor([("a", columns(12, first)) for first in (0, 2, 4, 6, 8, 10)])
        other = Floor([("a", Layer(Point(first, height), Lattice.oblong(6, 2))) for first in (0, 2, 4) for height in (0, 1)])
        self.assertTrue(six == other and other == six)
        self.assertFalse(six == Floor(other.laid[:5]))
        self.assertFalse(six == BOARD)
        self.assertTrue(six == BOARD.without("b"))
        self.assertTrue(Floor([]) == Floor([]))
        self.assertFalse(Floor([]) == ROWS)

    def test_walk(self):
        draw = Draw(112)
        equal = 0
        for _ in range(200):
            one, cells = drawn_floor(draw, draw.random.randint(0, 3), "ab")
            other, others = drawn_floor(draw, draw.random.randint(0, 3), "ab")
            if draw.random.random() < 0.3 and one.laid:
                letter, layer = one.laid[0]
                u, v = layer.lattice.rows()
                parts = [(letter, Layer(layer.point + v * at, Lattice([u, v * 2]))) for at in (1, 0)]
                other, others = Floor([*one.laid[1:], *parts]), cells
            self.assertIs(one == other, cells == others)
            equal += cells == others
        self.assertGreater(equal, 30)

    def test_other_classes(self):
        for value in no_points() + [BOARD.laid, "a", BOARD.places(), columns(2)]:
            self.assertFalse(BOARD == value)
            self.assertTrue(BOARD != value)


class TwoFloorsTest(unittest.TestCase):

    def test_both(self):
        one, other = Floor([("b", columns(4)), ("a", columns(4, 1))]), Floor([("b", columns(4, 2)), ("c", columns(4, 3))])
        self.assertEqual((one | other).laid, one.laid + other.laid)
        with self.assertRaises(Overlap) as caught:
            one | one
        self.assertEqual((caught.exception.first, caught.exception.second), (0, 2))
        with self.assertRaises(Overlap) as caught:
            other | Floor([("a", columns(8)), ("a", columns(8, 3)), ("a", columns(8, 2))])
        self.assertEqual((caught.exception.first, caught.exception.second), (1, 3))
        many = Floor([("a", columns(9, first)) for first in range(5)])
        for floor in (one, other):
            with self.assertRaises(TooMany) as caught:
                many | floor
            self.assertEqual(caught.exception.most, 6)
        self.assertTrue((one | Floor([])) == one and (Floor([]) | one) == one)

    def test_common(self):
        one = Floor([("b", columns(2)), ("a", columns(2, 1))])
        other = Floor([("a", columns(9, 2)), ("b", columns(9, 4)), ("a", columns(9, 5)), ("c", columns(9)), ("b", columns(9, 6))])
        common = one & other
        self.assertEqual(common.laid, (
            ("b", columns(18, 4)), ("b", columns(18, 6)), ("a", columns(18, 11)), ("a", columns(18, 5)),
        ))
        self.assertEqual((one & Floor([("c", columns(2))])).laid, ())
        threes = Floor([("a", columns(3, first)) for first in range(3)])
        fives = Floor([("a", columns(5, first)) for first in range(3)])
        with self.assertRaises(TooMany) as caught:
            threes & fives
        self.assertEqual(caught.exception.most, 6)
        self.assertEqual(len((threes & Floor(fives.laid[:2])).laid), 6)

    def test_walk(self):
        draw = Draw(113)
        for _ in range(60):
            one, cells = drawn_floor(draw, 3)
            other, others = drawn_floor(draw, 2)
            expected = {place: letter for place, letter in cells.items() if others.get(place) == letter}
            common = one & other
            self.assertTrue(all(common.letter_at(Point(x, y)) == expected.get((x, y)) for x in range(SIZE) for y in range(SIZE)))
            both = {}
            for place, letter in cells.items():
                if place in others:
                    both[letter, others[place]] = both.get((letter, others[place]), 0) + 1
            found = meetings(one=one, other=other)
            for thick in found.values():
                self.assertIsInstance(thick, Ratio)
            self.assertEqual({key: fraction(thick) * SIZE * SIZE for key, thick in found.items()}, both)
            if set(cells) & set(others):
                with self.assertRaises(Overlap):
                    one | other
            else:
                self.assertTrue(all((one | other).letter_at(Point(*place)) == {**cells, **others}[place] for place in {**cells, **others}))

    def test_new_dict(self):
        meetings(BOARD, ROWS).clear()
        self.assertEqual(len(meetings(BOARD, ROWS)), 2)
        self.assertEqual(meetings(BOARD, Floor([])), {})

    def test_long_numbers(self):
        draw = Draw(114)
        lattice = draw.lattice(HUNDRED)
        u, v = lattice.rows()
        point = draw.point(HUNDRED)
        one = Floor([("a", Layer(point + u * at, Lattice([u * 6, v]))) for at in range(3)])
        other = Floor([("a", Layer(point + v * at, Lattice([u, v * (HUNDRED + 1)]))) for at in range(2)])
        thick = Ratio(1, HUNDRED + 1) * Ratio(6, 6) * Layer(point, lattice).thickness
        self.assertEqual(meetings(one, other), {("a", "a"): thick})
        self.assertEqual((one & other).thick_of("a"), thick)


if __name__ == "__main__":
    unittest.main()
