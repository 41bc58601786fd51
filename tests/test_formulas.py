"""[77]: formulas."""

import unittest

from overfloors.errors import BadText, NoFloor, NoLetter, TooMany
from overfloors.floors import Floor
from overfloors.formulas import Formula
from overfloors.places import Places
from overfloors.points import Point
from overfloors.ratios import Ratio
from drawn import Draw, columns, no_points
from test_floors import BOARD, ROWS

FLOORS = {
    "one": Floor([("a", columns(4)), ("b", columns(4, 1))]),
    "two": Floor([("a", columns(3, 1)), ("c", columns(6, 2))]),
    "rows": ROWS,
}
SIDES = ["one", "two", "rows", "one.a", "one.b", "two.a", "two.c", "rows.b"]
SIZE = 12


class Wrong(Exception):
    """A word that cannot stand at an index."""


def read_sides(words, at, depth):
    """A reading of one's own: the expression that begins at an index, and the index behind it."""
    told, at = read_side(words, at, depth)
    while at < len(words) and words[at] in ("|", "&", "-", "^"):
        sign = words[at]
        other, at = read_side(words, at + 1, depth)
        told = (sign, told, other)
    return told, at


def read_side(words, at, depth):
    if at == len(words):
        raise Wrong(at)
    if words[at] == "(":
        if depth == 20:
            raise Wrong(at)
        told, at = read_sides(words, at + 1, depth + 1)
        if at == len(words) or words[at] != ")":
            raise Wrong(at)
        return told, at + 1
    parts = words[at].split(".")
    if len(parts) > 2 or not all(1 <= len(part) <= 8 and set(part) <= set("abcdefghijklmnopqrstuvwxyz") for part in parts):
        raise Wrong(at)
    return words[at], at + 1


def read(text):
    """The expression of a text; Wrong with the index of the first word that cannot stand there."""
    words = text.split(" ") if text else []
    told, at = read_sides(words, 0, 0)
    if at < len(words):
        raise Wrong(at)
    return told


def has(told, point):
    """Whether a point belongs to an expression."""
    if isinstance(told, str):
        name, _, letter = told.partition(".")
        found = FLOORS[name].letter_at(point)
        return found is not None and letter in ("", found)
    one, other = has(told[1], point), has(told[2], point)
    return {"|": one or other, "&": one and other, "-": one and not other, "^": one != other}[told[0]]


def drawn_expression(draw, depth):
    if depth == 0 or draw.random.random() < 0.15:
        return draw.random.choice(SIDES)
    return draw.random.choice("|&-^"), drawn_expression(draw, depth - 1), drawn_expression(draw, depth - 1)


def written(told, full):
    """The words of an expression, with all brackets or with as few as needed."""
    if isinstance(told, str):
        return [told]
    one, other = written(told[1], full), written(told[2], full)
    if full and len(one) > 1:
        one = ["(", *one, ")"]
    return [*one, told[0], *(["(", *other, ")"] if len(other) > 1 else other)]


def bad_index(text):
    try:
        Formula(text)
    except BadText as error:
        return error.index
    return None


class FormulaTest(unittest.TestCase):

    def test_example(self):
        formula = Formula("( board - rows ) & board.b")
        self.assertEqual(formula.names(), ("board", "rows"))
        self.assertEqual(formula.places({"board": BOARD, "rows": ROWS}).thick() * 3, 1)
        self.assertEqual(bad_index("board & & rows"), 2)

    def test_random_formulas(self):
        draw = Draw(140)
        points = [Point(x, 0) for x in range(SIZE)]
        kept = dict(FLOORS)
        for _ in range(150):
            told = drawn_expression(draw, 4)
            for full in (True, False):
                words = written(told, full)
                text = " ".join(words)
                self.assertEqual(read(text), told)
                formula = Formula(text=text)
                self.assertEqual(formula.text, text)
                self.assertEqual(formula.names(), tuple(sorted({word.split(".")[0] for word in words if word[0] in "otr"})))
                found = formula.places(floors=FLOORS)
                self.assertIsInstance(found, Places)
                self.assertEqual([point in found for point in points], [has(told, point) for point in points])
                self.assertNotIn(Point(Ratio(1, 2), 0), found)
        self.assertEqual(FLOORS, kept)

    def test_wrong_words(self):
        """A word put in, taken out, doubled, exchanged, cut short."""
        draw = Draw(141)
        more = SIDES + ["|", "&", "-", "^", "(", ")", "", "one.", ".a", "one.a.b", "One", "one.A", "a1", "abcdefghi", "+", "()", "."]
        wrong = 0
        for _ in range(1500):
            words = written(drawn_expression(draw, 3), draw.random.random() < 0.5)
            at = draw.random.randrange(len(words))
            kind = draw.random.randrange(5)
            if kind == 0:
                words.insert(draw.random.randint(0, len(words)), draw.random.choice(more))
            elif kind == 1:
                del words[at]
            elif kind == 2:
                words.insert(at, words[at])
            elif kind == 3:
                other = draw.random.randrange(len(words))
                words[at], words[other] = words[other], words[at]
            else:
                words[at] = words[at][:draw.random.randint(0, len(words[at]))]
            text = " ".join(words)
            try:
                read(text)
                expected = None
            except Wrong as error:
                expected = error.args[0]
                wrong += 1
            self.assertEqual(bad_index(text), expected, text)
        self.assertGreater(wrong, 700)

    def test_edges(self):
        for text, expected in [
            ("", 0), (" ", 0), ("  ", 0), (" one", 0), ("one ", 1), ("one  | two", 1), ("one |  two", 2), ("one | ", 2),
            ("one |", 2), ("one two", 1), ("(", 1), (")", 0), ("( one", 2), ("one )", 1), ("( )", 1), ("one.a.b", 0),
            ("one.", 0), (".a", 0), ("oneisnine", 0), ("one.oneisnine", 0), ("oneeight.oneeight", None), ("ONE", 0), ("one\t| two", 0),
            ("one\n", 0), ("one | two\n", 2), ("\u00e4", 0), ("one|two", 0), ("( one )", None), ("( ( one ) )", None),
            ("one ( two )", 1), ("( one ) two", 3), ("| one", 0), ("one | ( two & one.a", 6), ("one - - two", 2),
            ("one.a .b", 1), ("one . a", 1), ("one , two", 1), ("(one)", 0), ("one\u00a0| two", 0),
        ]:
            self.assertEqual(bad_index(text), expected, text)

    def test_brackets(self):
        for many, expected in [(1, None), (19, None), (20, None), (21, 20), (22, 20), (40, 20)]:
            text = " ".join(["("] * many + ["one"] + [")"] * many)
            self.assertEqual(bad_index(text), expected)
        # Brackets that are closed again do not count.
        self.assertIsNone(bad_index(" | ".join(["( one )"] * 30)))
        text = " ".join(["("] * 20 + ["one"] + [")"] + ["|", "(", "two", ")"] * 3 + [")"] * 19)
        self.assertIsNone(bad_index(text))
        self.assertEqual(bad_index(text.replace("( two", "( ( two", 1)), 24)
        self.assertEqual(bad_index(" ".join(["("] * 20)), 20)
        deep = Formula(" ".join(["one |", "( two.a -"] * 10 + ["rows"] + [")"] * 10))
        self.assertEqual(deep.names(), ("one", "rows", "two"))
        self.assertIsInstance(deep.places(FLOORS), Places)

    def test_no_texts(self):
        for value in no_points() + [b"one", ["one"], Formula("one")]:
            if not isinstance(value, str):
                with self.assertRaises(BadText):
                    Formula(value)

    def test_equal(self):
        formula = Formula("one | two")
        self.assertTrue(formula == Formula("one | two"))
        self.assertFalse(formula != Formula("one | two"))
        for other in (Formula("two | one"), Formula("( one | two )"), "one | two", None, 1, ("one", "two"), columns(2)):
            self.assertFalse(formula == other)
            self.assertTrue(formula != other)

    def test_names(self):
        self.assertEqual(Formula("two.c | one & two - rows.b").names(), ("one", "rows", "two"))
        self.assertEqual(Formula("b | ab | a.z").names(), ("a", "ab", "b"))


class PlacesTest(unittest.TestCase):

    def raised(self, text, floors=None):
        try:
            Formula(text).places(FLOORS if floors is None else floors)
        except NoFloor as error:
            return "floor", error.name
        except NoLetter as error:
            return "letter", error.letter
        except TooMany as error:
            return "many", error.most
        return None

    def test_errors_in_order(self):
        many = {"x": Floor([("a", columns(11, at)) for at in range(6)]), "y": Floor([("a", columns(13, at)) for at in range(6)]), **FLOORS}
        for text, expected in [
            ("no | one", ("floor", "no")), ("one.z | no", ("floor", "no")), ("x | y | no.q", ("floor", "no")),
            ("one | ( two & no ) | other", ("floor", "no")), ("one.z | two.y", ("letter", "z")),
            ("one | two.y", ("letter", "y")), ("x | y | one.z", ("many", 6)), ("x | one.z | y", ("letter", "z")),
            ("x | y.z", ("letter", "z")), ("x | ( y | one.z )", ("letter", "z")), ("one.z | ( x | y )", ("letter", "z")),
            ("( x | y ) | one.z", ("many", 6)), ("x - x | y", None), ("x | ( y - y )", None), ("x & ( y | two.q )", ("letter", "q")),
            ("one.a & ( x & ( two.q | x ) )", ("letter", "q")), ("x & y & ( one - one )", ("many", 6)), ("x", None),
            ("x | x ^ x | y", None),
        ]:
            self.assertEqual(self.raised(text, many), expected, text)

    def test_from_left_to_right(self):
        """All operators are of one rank."""
        for text in ("one | two & rows", "one - two - rows", "one ^ two | one.a & rows", "one & ( two | rows ) - one.b"):
            found, told = Formula(text).places(FLOORS), read(text)
            for x in range(SIZE):
                self.assertIs(Point(x, 0) in found, has(told, Point(x, 0)))
        self.assertTrue(Formula("one - two - rows").places(FLOORS) == Formula("( one - two ) - rows").places(FLOORS))
        self.assertFalse(Formula("one | two & rows").places(FLOORS) == Formula("one | ( two & rows )").places(FLOORS))

    def test_hundred_words(self):
        draw = Draw(142)
        words = ["one"]
        while len(words) < 99:
            words += [draw.random.choice("|&-^"), draw.random.choice(SIDES)]
        text = " ".join(words)
        found, told = Formula(text).places(FLOORS), read(text)
        for x in range(SIZE):
            self.assertIs(Point(x, 5) in found, has(told, Point(x, 5)))

    def test_layers(self):
        found = Formula("two.c | one").places(FLOORS)
        self.assertEqual(found.layers, (columns(6, 2), columns(4), columns(4, 1)))
        self.assertEqual(Formula("one | two - two").places(FLOORS).layers, (columns(4), columns(4, 1), columns(3, 1), columns(6, 2)))
        self.assertEqual(Formula("empty").places({"empty": Floor([])}).layers, ())


if __name__ == "__main__":
    unittest.main()
