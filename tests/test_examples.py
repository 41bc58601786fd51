"""All examples of the document, [7] and [17], [51] to [79], once more."""

import unittest

from overfloors.bases import Base, least_bases, shape_of
from overfloors.corridors import Corridor
from overfloors.covers import covers, uncovered, window_points
from overfloors.desk import Desk
from overfloors.errors import Barred, BadText
from overfloors.floors import Floor, meetings
from overfloors.formulas import Formula
from overfloors.grounds import Ground
from overfloors.holes import clearance, holes
from overfloors.keys import alike, least_key
from overfloors.lattices import Lattice
from overfloors.layers import Layer
from overfloors.lines import lines_of
from overfloors.many import bar_of, fullest
from overfloors.motions import Motion, indices, stretching
from overfloors.near import distance, gap, nearest, within
from overfloors.own import centres, common_motions, own_motions
from overfloors.places import Places
from overfloors.points import Form, Point, cross
from overfloors.promises import Always, Never, Thick
from overfloors.ratios import Ratio, gcd_of, lcm_of
from overfloors.sectors import least_turn
from overfloors.shifts import best_shifts
from overfloors.spots import spots
from overfloors.stretches import Stretches
from overfloors.tiles import Tile
from overfloors.toldback import complements, partners, sublattices
from overfloors.turnings import Turning
from overfloors.turns import direction, indices_to, mirror, turn, turn_index, turns_of
from overfloors.windows import Window, count_in

S, T, Z = Ground(1, 0, 1), Ground(1, 1, 1), Lattice.square(1)


class FirstExamplesTest(unittest.TestCase):

    def test_numbers_and_points(self):
        self.assertEqual((Ratio(6, -4).top, Ratio(6, -4).bottom), (-3, 2))
        self.assertEqual((Ratio(-3, 2) // 1, Ratio(-3, 2) % 1, Ratio(-3, 2).ceiling()), (-2, Ratio(1, 2), -1))
        self.assertEqual((gcd_of(12, -18), lcm_of(4, 6)), (6, 12))
        self.assertEqual([str(number) for number in (Ratio(2, 3), Ratio(-2, 3), Ratio(5))], ["2/3", "-2/3", "5"])
        self.assertEqual(cross(Point(2, 1), Point(1, 3)), 5)
        self.assertEqual(Form(Ratio(1, 2), 1)(Point(3, 1)), Ratio(5, 2))

    def test_lattices(self):
        first = Lattice([Point(2, 1), Point(1, 2), Point(0, Ratio(1, 2))])
        self.assertEqual((first.a, first.b, first.d), (1, 0, Ratio(1, 2)))
        lattice = Lattice([Point(2, 1), Point(0, 3)])
        self.assertEqual((lattice.a, lattice.b, lattice.d, lattice.cell), (2, 1, 3, 6))
        self.assertEqual((lattice.rest(Point(5, 1)), lattice.order(Point(1, 0))), (Point(1, 2), 6))
        common, joint = lattice & Lattice.square(2), lattice + Lattice.square(2)
        self.assertEqual((common.a, common.b, common.d), (2, 4, 6))
        self.assertEqual((joint.a, joint.b, joint.d), (2, 0, 1))
        self.assertEqual([(lines.r, lines.s) for lines in (lines_of(Z, lattice), lines_of(lattice, Z))], [(1, 6), (Ratio(1, 6), 1)])

    def test_layers(self):
        even, third = Layer(Point(0, 0), Lattice.oblong(2, 1)), Layer(Point(1, 0), Lattice.oblong(3, 1))
        self.assertEqual(even & third, Layer(Point(4, 0), Lattice.oblong(6, 1)))
        self.assertEqual(even - third, Layer(Point(0, 0), Z))
        self.assertIsNone(even & even.shifted(Point(1, 0)))
        three = [even, Layer(Point(0, 0), Lattice.oblong(1, 2)), Layer(Point(1, 0), Lattice([Point(1, 1), Point(0, 2)]))]
        self.assertEqual((bar_of(three).numbers, bar_of(three).value), ([0, 1, 2], Ratio(1, 2)))
        self.assertEqual(fullest(three), ([0, 1], Layer(Point(0, 0), Lattice.square(2))))

    def test_toldback_and_stretches(self):
        self.assertEqual(len(sublattices(Z, 6)), 12)
        self.assertEqual(len(partners(Z, Lattice.oblong(2, 1), 2)), 2)
        self.assertEqual(complements(Lattice.oblong(2, 1), Lattice.oblong(4, 1), Z), [])
        s = Stretches(Layer(Point(1, 0), Lattice.oblong(2, 1)), Layer(Point(1, 0), Lattice.oblong(4, 1)))
        self.assertEqual((s.period, s.wins, s.levels), (2, [1], [(1, Lattice.oblong(2, 1))]))
        self.assertEqual((s.first_win(), s.room(3), s.meeting(2)), (1, 36, None))

    def test_motions(self):
        m = Motion([[0, -1], [1, 0]], Point(1, 0))
        self.assertEqual((m(Point(2, 0)), m.order(), m.kept()), (Point(1, 2), 4, Point(Ratio(1, 2), Ratio(1, 2))))
        self.assertEqual((m.kind(S), m.kind(T)), ("turn", None))
        self.assertEqual(indices(Z, stretching(Ratio(2, 3))), (4, 9))
        self.assertEqual(indices(Z, Motion([[Ratio(3, 5), Ratio(-4, 5)], [Ratio(4, 5), Ratio(3, 5)]])), (5, 5))

    def test_turns(self):
        self.assertEqual(turn(S, Point(2, 1)).table, ((Ratio(3, 5), Ratio(-4, 5)), (Ratio(4, 5), Ratio(3, 5))))
        self.assertEqual((turn_index(S, Point(2, 1)), turn_index(S, Point(3, 1))), (5, 5))
        self.assertEqual(turns_of(S, 1), [Point(1, 0), Point(1, 1), Point(0, 1), Point(-1, 1)])
        self.assertEqual((len(turns_of(S, 5)), turns_of(S, 5)[:2]), (8, [Point(3, 1), Point(2, 1)]))
        self.assertEqual(indices_to(S, 30), [1, 5, 13, 17, 25, 29])
        self.assertEqual(indices_to(Ground(1, 1, 6), 30), [1, 6, 8, 12, 18, 26, 27])
        self.assertEqual(direction(T, mirror(T, Point(-4, -2))), Point(2, 1))
        self.assertIsNone(direction(S, stretching(2)))
        self.assertEqual(direction(S, Motion([[0, -1], [1, 0]])), Point(1, 1))
        self.assertEqual(least_turn(S, Point(1, 0), Point(1, 1)), (5, Point(3, 1)))
        self.assertEqual(least_turn(S, Point(10, 1), Point(9, 1)), (365, Point(19, 2)))
        self.assertEqual(Turning(S, [Point(2, 1), Point(3, 1)]).relations(), [(1, 1)])
        self.assertEqual(Turning(S, [Point(2, 1), Point(3, 2)]).relations(), [])
        self.assertEqual(Turning(S, [Point(2, 1)]).made(Point(4, 3)), (-2,))
        self.assertIsNone(Turning(S, [Point(2, 1)]).made(Point(3, 2)))

    def test_grounds_and_bases(self):
        self.assertEqual((S.measure(Point(3, 4)), T.measure(Point(1, -1)), T.pair(Point(1, 0), Point(0, 1))), (25, 1, 1))
        self.assertFalse(Ground(2, 0, 2) == S)
        lattice = Lattice([Point(5, 0), Point(2, 1)])
        self.assertEqual((shape_of(S, lattice), len(least_bases(S, lattice))), ((5, 0, 5), 8))
        self.assertEqual(least_bases(S, lattice)[0], Base(S, Point(-2, -1), Point(-1, 2)))
        self.assertEqual((shape_of(T, Z), len(least_bases(T, Z))), ((1, 1, 1), 12))

    def test_near_and_holes(self):
        half = Ratio(1, 2)
        whole, beside = Layer(Point(0, 0), Z), Layer(Point(half, 0), Z)
        self.assertEqual(nearest(S, whole, Point(half, half)), [Point(0, 0), Point(0, 1), Point(1, 0), Point(1, 1)])
        self.assertEqual(distance(S, whole, Point(half, half)), half)
        self.assertEqual(gap(S, [whole], [beside]), (Ratio(1, 4), [Point(-half, 0), Point(half, 0)]))
        self.assertEqual(within(S, whole, Point(0, 0), 1), [Point(0, 0), Point(-1, 0), Point(0, -1), Point(0, 1), Point(1, 0)])
        third = Ratio(1, 3)
        self.assertEqual(holes(T, Z), (third, [Layer(Point(third, third), Z), Layer(Point(2 * third, 2 * third), Z)]))
        self.assertEqual(clearance(S, whole, beside), (half, [Layer(Point(0, half), Z)]))

    def test_tiles(self):
        tile = Tile(Lattice([Point(2, 0), Point(0, 1)]), {"a": [Point(0, 0), Point(1, 0)]})
        self.assertTrue(tile == Tile(Z, {"a": [Point(5, 7)]}))
        self.assertEqual(tile.lattice, Z)
        one = Tile(Lattice([Point(2, 0), Point(0, 1)]), {"a": [Point(0, 0)]})
        other = Tile(Lattice([Point(1, 0), Point(0, 2)]), {"a": [Point(3, 1)]})
        self.assertEqual(least_key(S, one), least_key(S, other))
        self.assertEqual(least_key(S, one, mirrors=False), least_key(S, other, mirrors=False))
        self.assertIsNone(alike(S, one, S, Tile(other.lattice, {"b": [Point(3, 1)]})))
        bare, wide = Tile(Z, {"a": [Point(0, 0)]}), Tile(2 * Z, {"a": [Point(0, 0)]})
        self.assertIsNone(alike(S, bare, S, wide))
        self.assertTrue(bare.moved(alike(S, bare, S, wide, stretch=True)) == wide)
        half = Ratio(1, 2)
        self.assertEqual(len(own_motions(S, bare)), 8)
        self.assertEqual(centres(S, bare), [(Point(0, 0), 4), (Point(0, half), 2), (Point(half, 0), 2), (Point(half, half), 4)])
        common = common_motions(S, bare, Tile(Z, {"b": [Point(Ratio(1, 3), 0)]}))
        self.assertEqual(len(common), 2)
        self.assertIn(Motion([[1, 0], [0, 1]]), common)
        self.assertIn(Motion([[1, 0], [0, -1]]), common)


class SessionTest(unittest.TestCase):
    """The examples under [70] to [79], which go on from one another."""

    def setUp(self):
        self.two, self.three = Lattice([Point(2, 0), Point(0, 1)]), Lattice([Point(3, 0), Point(0, 1)])
        self.even, self.third = Places([Layer(Point(0, 0), self.two)]), Places([Layer(Point(1, 0), self.three)])
        self.board = Floor([("a", Layer(Point(0, 0), self.two)), ("b", Layer(Point(1, 0), self.two))])
        self.rows = Floor([("b", Layer(Point(1, 0), self.three))])

    def test_places(self):
        even, third = self.even, self.third
        self.assertEqual(
            [(even & third).thick() == Ratio(1, 6), (even | third).thick() == Ratio(2, 3), Point(4, 7) in even & third,
             Point(4, 7) in even - third], [True, True, True, False])
        both = Places([Layer(Point(4, 0), Lattice([Point(6, 0), Point(0, 1)]))])
        self.assertEqual(
            [even & third == both, both.inside(even), len((even ^ third).patterns()), bool(both - even), both.witness() in third],
            [True, True, 2, False, True])

    def test_covers_and_windows(self):
        even, third = self.even, self.third
        unit = Lattice([Point(1, 0), Point(0, 1)])
        ground, halves = Layer(Point(0, 0), unit), [Layer(Point(0, 0), self.two), Layer(Point(1, 0), self.two)]
        self.assertEqual(
            [covers(halves, ground), covers(halves[:1], ground), uncovered(halves, ground), len(window_points(ground, 2))],
            [True, False, None, 16])
        self.assertEqual(
            [count_in(even | third, Window(0, 6, 0, 1)), count_in(even, Window(0, 10 ** 30, 0, 10 ** 30)) == 5 * 10 ** 59,
             count_in(even, Window(3, 3, 0, 1))], [4, True, 0])

    def test_corridors(self):
        even, third = self.even, self.third
        flat = Corridor(Point(1, 0), Point(0, 1), 0, 1)
        self.assertEqual(
            [flat.next_from(even & third, 5) == Point(10, 0), flat.kth(even & third, 0, 10 ** 30) == Point(6 * 10 ** 30 + 4, 0),
             flat.share(even | third) == Ratio(2, 3)], [True, True, True])
        slanted = Layer(Point(0, 0), Lattice([Point(1, 2), Point(0, 5)]))
        gaps = Corridor(Point(1, 0), Point(0, 1), 0, 2).gaps(slanted)
        self.assertEqual(
            [(one == Ratio(number), share == Ratio(1, 5)) for (one, share), number in zip(gaps, [2, 3])], [(True, True), (True, True)])

    def test_floors(self):
        board, rows = self.board, self.rows
        self.assertEqual(
            [board.letters(), board.letter_at(Point(3, 4)), meetings(board, rows) == {("a", "b"): Ratio(1, 6), ("b", "b"): Ratio(1, 6)},
             (board & rows).letter_at(Point(1, 0))], [("a", "b"), "b", True, "b"])
        self.assertEqual([rows.renamed({"b": "z", "q": "x"}).letters(), board.without("a").letters()], [("z",), ("b",)])
        seen = spots(Layer(Point(0, 0), self.two), rows, Window(0, 1, 0, 1))
        self.assertEqual(
            [len(seen), sorted([str(one[1]) for one in seen]), sorted([len(one[0]) for one in seen])], [2, ["1/3", "1/6"], [0, 1]])
        worth, places = best_shifts(board, rows, {("a", "b"): 2, ("b", "b"): -1})
        self.assertEqual(
            [worth == Ratio(1, 6), Point(0, 0) in places, Point(0, 3) in places, Point(0, Ratio(1, 2)) in places],
            [True, True, True, False])

    def test_formulas_and_promises(self):
        board, rows = self.board, self.rows
        formula = Formula("( board - rows ) & board.b")
        self.assertEqual(
            [formula.names(), formula.places({"board": board, "rows": rows}).thick() == Ratio(1, 3)], [("board", "rows"), True])
        with self.assertRaises(BadText) as caught:
            Formula("board & & rows")
        self.assertEqual(caught.exception.index, 2)
        floors = {"board": board, "rows": rows}
        self.assertEqual([Always("rows", "board").is_kept(floors), Always("board", "rows").is_kept(floors)], [True, False])

    def test_desk(self):
        desk = Desk()
        desk.put("board", self.board)
        desk.put("rows", self.rows)
        desk.keep("odd", Thick("board.a & rows", 0, Ratio(1, 6)))
        desk.keep("apart", Never("( board ^ rows ) & rows"))
        self.assertEqual(
            [desk.promises(), desk.places("board - rows").thick() == Ratio(2, 3), desk.undoable()], [("apart", "odd"), True, 4])
        with self.assertRaises(Barred) as caught:
            desk.slide("rows", Point(Ratio(1, 2), 0))
        self.assertEqual(caught.exception.words, ["apart"])
        desk.undo()
        self.assertEqual([desk.promises(), desk.undoable()], [("odd",), 3])
        with self.assertRaises(Barred) as caught:
            desk.take("rows")
        self.assertEqual(caught.exception.words, ["odd"])
        self.assertIsNone(desk.attempt(lambda one: one.free("odd")))
        desk.take("rows")
        self.assertEqual([desk.floors(), "rows" in desk, len(desk), desk.undoable()], [("board",), False, 1, 5])


if __name__ == "__main__":
    unittest.main()
