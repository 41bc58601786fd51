"""[78]: promises."""

import unittest

from overfloors.errors import BadText, NoFloor, NoLetter, TooMany
from overfloors.floors import Floor
from overfloors.formulas import Formula
from overfloors.points import Point
from overfloors.promises import Always, Never, Thick
from overfloors.ratios import Ratio
from drawn import HUNDRED, Draw, columns
from test_floors import BOARD, ROWS
from test_formulas import FLOORS, drawn_expression, written

BOTH = {"board": BOARD, "rows": ROWS}
MANY = {
    "x": Floor([("a", columns(11, at)) for at in range(6)]), "y": Floor([("a", columns(13, at)) for at in range(6)]), **BOTH,
}


class PromisesTest(unittest.TestCase):

    def test_example(self):
        self.assertIs(Always("rows", "board").is_kept(BOTH), True)
        self.assertIs(Always("board", "rows").is_kept(BOTH), False)

    def test_attributes(self):
        self.assertEqual(Never(text="a | b").text, "a | b")
        always = Always(wider="b", text="a")
        self.assertEqual((always.text, always.wider), ("a", "b"))
        thick = Thick(high=Ratio(7, 3), low=-1, text="( a )")
        self.assertEqual((thick.text, thick.low, thick.high), ("( a )", -1, Ratio(7, 3)))
        self.assertIsInstance(thick.low, Ratio)
        self.assertIsInstance(Thick("a", 0, 5).high, Ratio)
        self.assertTrue(thick == thick)
        self.assertFalse(thick == Thick("( a )", -1, Ratio(7, 3)))

    def test_wrong_texts(self):
        for text, index in [("", 0), ("a |", 2), ("a b", 1), ("a | & b", 2), ("( a", 2)]:
            for call in (lambda: Never(text), lambda: Always(text, "a"), lambda: Always("a", text),
                         lambda: Always(text, "A | ( b"), lambda: Thick(text, 0, 1)):
                with self.assertRaises(BadText) as caught:
                    call()
                self.assertEqual(caught.exception.index, index)

    def test_edges_of_thickness(self):
        """board.a & rows has the thickness 1/6."""
        small = Ratio(1, HUNDRED)
        sixth = Ratio(1, 6)
        for low, high, expected in [
            (sixth, sixth, True), (sixth + small, 1, False), (sixth - small, sixth, True), (0, sixth - small, False),
            (sixth, 1, True), (0, 0, False), (1, 0, False), (-5, 1, True),
        ]:
            self.assertIs(Thick("board.a & rows", low, high).is_kept(BOTH), expected)
        self.assertIs(Thick("rows - rows", 0, 0).is_kept(floors=BOTH), True)

    def test_never(self):
        self.assertIs(Never("board.a & board.b").is_kept(BOTH), True)
        self.assertIs(Never("board.a & rows").is_kept(floors=BOTH), False)
        self.assertIs(Never("( board ^ rows ) & rows").is_kept(BOTH), True)
        shifted = {**BOTH, "rows": ROWS.shifted(Point(0, Ratio(1, 2)))}
        self.assertIs(Never("board & rows").is_kept(shifted), True)

    def test_random(self):
        draw = Draw(150)
        points = [Point(x, 0) for x in range(12)]
        counts = [0, 0, 0]
        for _ in range(120):
            one, other = [" ".join(written(drawn_expression(draw, 2), False)) for _ in range(2)]
            first, second = [{at for at, point in enumerate(points) if point in Formula(text).places(FLOORS)} for text in (one, other)]
            self.assertIs(Never(one).is_kept(FLOORS), not first)
            self.assertIs(Always(one, other).is_kept(FLOORS), first <= second)
            low, high = Ratio(draw.integer(12), 12), Ratio(draw.integer(12), 12)
            self.assertIs(Thick(one, low, high).is_kept(FLOORS), low <= Ratio(len(first), 12) <= high)
            counts = [counts[0] + (not first), counts[1] + (first <= second), counts[2] + (low <= Ratio(len(first), 12) <= high)]
        self.assertTrue(all(count > 3 for count in counts), counts)

    def test_errors(self):
        for text, error, told in [
            ("no | board.z", NoFloor, "no"), ("board.z | x | y", NoLetter, "z"), ("x | y | board.z", TooMany, 6),
        ]:
            for promise in (Never(text), Always(text, "rows"), Always("rows", text), Always(text, "no"), Always(text, "rows.q"),
                            Thick(text, 0, 1)):
                with self.assertRaises(error) as caught:
                    promise.is_kept(MANY)
                self.assertEqual(list(vars(caught.exception).values()), [told])
        # The errors of the first formula come ahead of those of the second one, also of missing floors.
        with self.assertRaises(TooMany):
            Always("x | y", "no").is_kept(MANY)
        with self.assertRaises(NoLetter):
            Always("board.q", "no").is_kept(MANY)


if __name__ == "__main__":
    unittest.main()
