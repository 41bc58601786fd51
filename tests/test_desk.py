"""[79]: desks."""

import unittest

from overfloors.desk import Desk
from overfloors.errors import (
    BadName, BadText, Barred, FloorError, NoFloor, NoLetter, NoPromise, NothingToUndo, Taken, TooMany,
)
from overfloors.floors import Floor
from overfloors.layers import Layer
from overfloors.lattices import Lattice
from overfloors.motions import Motion
from overfloors.places import Places
from overfloors.points import Point
from overfloors.promises import Always, Never, Thick
from overfloors.ratios import Ratio
from drawn import HUNDRED, Draw, Other, columns, nested
from test_floors import BOARD, ROWS, no_letters

WIDE = Floor([("a", columns(1))])
SIX = Floor([("a", columns(7, at)) for at in range(6)])


def told(desk):
    """All that a desk tells."""
    return (
        [(name, desk[name]) for name in desk.floors()], desk.promises(), desk.undoable(), len(desk),
    )


class Failure(BaseException):
    """An error that no package knows."""


class ExampleTest(unittest.TestCase):

    def test_example(self):
        desk = Desk()
        self.assertIsNone(desk.put("board", BOARD))
        desk.put("rows", ROWS)
        self.assertIsNone(desk.keep("odd", Thick("board.a & rows", 0, Ratio(1, 6))))
        desk.keep("apart", Never("( board ^ rows ) & rows"))
        self.assertEqual(desk.promises(), ("apart", "odd"))
        self.assertEqual(desk.places("board - rows").thick(), Ratio(2, 3))
        self.assertEqual(desk.undoable(), 4)
        with self.assertRaises(Barred) as caught:
            desk.slide("rows", Point(Ratio(1, 2), 0))
        self.assertEqual(caught.exception.words, ["apart"])
        self.assertIsNone(desk.undo())
        self.assertEqual((desk.promises(), desk.undoable()), (("odd",), 3))
        with self.assertRaises(Barred) as caught:
            desk.take("rows")
        self.assertEqual(caught.exception.words, ["odd"])
        self.assertIsNone(desk.attempt(lambda one: one.free("odd")))
        self.assertIsNone(desk.take("rows"))
        self.assertEqual((desk.floors(), "rows" in desk, len(desk), desk.undoable()), (("board",), False, 1, 5))


class DeedsTest(unittest.TestCase):

    def test_names(self):
        desk = Desk()
        desk.put("board", BOARD)
        desk.keep("some", Thick("board", 0, 1))
        before = told(desk)
        for value in no_letters():
            for call, error in [
                (lambda: desk.put(value, BOARD), BadName), (lambda: desk.keep(value, Never("board")), BadName),
                (lambda: desk.take(value), NoFloor), (lambda: desk.slide(value, Point(1, 1)), NoFloor),
                (lambda: desk.free(value), NoPromise), (lambda: desk[value], NoFloor),
            ]:
                with self.assertRaises(error) as caught:
                    call()
                self.assertIs(list(vars(caught.exception).values())[0], value)
            self.assertIs(value in desk, False)
        for value in ("rows", "some", "x"):
            for call in (lambda: desk.take(value), lambda: desk.slide(value, Point(1, 1)), lambda: desk[value]):
                with self.assertRaises(NoFloor) as caught:
                    call()
                self.assertEqual(caught.exception.name, value)
            self.assertIs(value in desk, False)
        for value in ("board", "odd"):
            with self.assertRaises(NoPromise) as caught:
                desk.free(value)
            self.assertEqual(caught.exception.name, value)
        self.assertEqual(told(desk), before)
        self.assertIs("board" in desk, True)

    def test_empty(self):
        desk = Desk()
        self.assertEqual((desk.floors(), desk.promises(), desk.undoable(), len(desk)), ((), (), 0, 0))
        with self.assertRaises(NothingToUndo):
            desk.undo()
        self.assertIsNone(desk.move_all(Motion([[2, 0], [0, 1]])))
        self.assertEqual(desk.undoable(), 1)
        self.assertTrue(desk == desk)
        self.assertFalse(desk == Desk())

    def test_order_of_names(self):
        desk = Desk()
        for name in ("b", "a", "ba", "ab"):
            desk.put(name, BOARD)
            desk.keep(name + "z", Thick(name, 1, 1))
        self.assertEqual(desk.floors(), ("a", "ab", "b", "ba"))
        self.assertEqual(desk.promises(), ("abz", "az", "baz", "bz"))
        with self.assertRaises(Barred) as caught:
            desk.move_all(Motion([[2, 0], [0, 1]]))
        self.assertEqual(caught.exception.words, ["abz", "az", "baz", "bz"])

    def test_floors(self):
        desk = Desk()
        desk.put(name="x", floor=BOARD)
        self.assertTrue(desk["x"] == BOARD)
        desk.put(floor=ROWS, name="x")
        self.assertTrue(desk["x"] == ROWS)
        self.assertEqual((len(desk), desk.undoable()), (1, 2))
        desk.put("y", BOARD)
        desk.slide(point=Point(Ratio(1, 3), 2), name="y")
        self.assertTrue(desk["y"] == BOARD.shifted(Point(Ratio(1, 3), 2)))
        self.assertTrue(desk["x"] == ROWS)
        motion = Motion([[0, -1], [1, HUNDRED]], Point(1, 2))
        desk.move_all(motion=motion)
        self.assertTrue(desk["y"] == BOARD.shifted(Point(Ratio(1, 3), 2)).moved(motion))
        self.assertTrue(desk["x"] == ROWS.moved(motion))
        desk.take(name="y")
        self.assertEqual((desk.floors(), desk.undoable()), (("x",), 6))
        for _ in range(4):
            desk.undo()
        self.assertTrue(desk["x"] == ROWS)
        desk.undo()
        self.assertTrue(desk["x"] == BOARD)
        desk.undo()
        with self.assertRaises(NothingToUndo):
            desk.undo()

    def test_keep(self):
        desk = Desk()
        desk.put("board", BOARD)
        desk.put("six", SIX)
        desk.put("wide", WIDE.moved(Motion([[7, 0], [0, 3]])))
        desk.keep(promise=Never("board - board"), name="none")
        before = told(desk)
        for name, promise, error, field in [
            ("B", Never("no"), BadName, "B"), ("none", Never("no"), Taken, "none"), ("none", Never("board"), Taken, "none"),
            ("x", Never("board | no"), NoFloor, "no"), ("x", Never("board.c"), NoLetter, "c"),
            ("x", Never("six & ( board ^ wide )"), TooMany, 6), ("x", Never("board"), Barred, ["x"]),
            ("x", Always("board", "no"), NoFloor, "no"), ("x", Thick("board", 2, 3), Barred, ["x"]),
            ("x", Always("board", "board.a"), Barred, ["x"]),
        ]:
            with self.assertRaises(error) as caught:
                desk.keep(name, promise)
            self.assertEqual(list(vars(caught.exception).values())[0], field)
        self.assertEqual(told(desk), before)
        desk.keep("board", Always("board.a", "board"))
        self.assertEqual(desk.promises(), ("board", "none"))
        desk.free(name="none")
        desk.keep("none", Always("board.b", "board"))
        self.assertEqual(desk.undoable(), 7)

    def test_barred_by_what_is_missing(self):
        """Promises about missing floors, missing letters and too many layers are not kept."""
        desk = Desk()
        desk.put("one", BOARD)
        desk.put("two", ROWS)
        desk.keep("missing", Thick("two", 0, 1))
        desk.keep("letter", Thick("one.a", 0, 1))
        desk.keep("many", Thick("one | two", 0, 1))
        desk.keep("wider", Always("two - two", "one.b"))
        before = told(desk)
        for call, words in [
            (lambda: desk.take("two"), ["many", "missing", "wider"]), (lambda: desk.take("one"), ["letter", "many", "wider"]),
            (lambda: desk.put("one", BOARD.without("a")), ["letter"]), (lambda: desk.put("one", ROWS.renamed({"b": "c"})), ["letter", "wider"]),
            (lambda: desk.put("two", SIX), ["many"]), (lambda: desk.put("one", Floor([])), ["letter", "wider"]),
        ]:
            with self.assertRaises(Barred) as caught:
                call()
            self.assertIsInstance(caught.exception.words, list)
            self.assertEqual(caught.exception.words, words)
            self.assertEqual(told(desk), before)
        desk.put("two", Floor([]))
        desk.put("three", SIX)

    def test_places(self):
        desk = Desk()
        desk.put("one", BOARD)
        desk.put("six", SIX)
        self.assertTrue(desk.places(text="one.a") == Places([columns(2)]))
        for text, error, field in [
            ("one |", BadText, 2), ("no |", BadText, 2), ("one.x | no", NoFloor, "no"), ("one.x | six", NoLetter, "x"),
            ("six | one", TooMany, 6),
        ]:
            with self.assertRaises(error) as caught:
                desk.places(text)
            self.assertEqual(list(vars(caught.exception).values()), [field])
        self.assertEqual(desk.undoable(), 2)

    def test_deeds_that_change_nothing_count(self):
        desk = Desk()
        desk.put("one", BOARD)
        desk.put("one", BOARD)
        desk.slide("one", Point(0, 0))
        desk.move_all(Motion([[1, 0], [0, 1]]))
        self.assertEqual(desk.undoable(), 4)
        with self.assertRaises(TypeError):
            list(desk)

    def test_what_is_told_is_new(self):
        desk = Desk()
        desk.put("one", BOARD)
        desk.keep("some", Thick("one", 1, 1))
        with self.assertRaises(Barred) as caught:
            desk.take("one")
        caught.exception.words.append("x")
        with self.assertRaises(Barred) as caught:
            desk.take("one")
        self.assertEqual(caught.exception.words, ["some"])


class HistoryTest(unittest.TestCase):
    """Histories of deeds, against a list of what should stand."""

    FLOORS = [BOARD, ROWS, WIDE, Floor([]), BOARD.renamed({"a": "c"}), Floor([("a", columns(4, 1))]), SIX]
    PROMISES = [
        Never("one & two"), Always("one", "two"), Thick("one", 0, Ratio(1, 2)), Never("one.a & two.b"),
        Thick("two.b", Ratio(1, 9), 1), Always("two.a", "one | two"), Never("one - one"), Thick("one | two", 0, 2),
    ]

    def kept(self, promise, floors):
        try:
            return promise.is_kept(floors)
        except (NoFloor, NoLetter, TooMany):
            return False

    def expected(self, state, kind, name, value):
        """The state behind a deed, or the error that it should raise and its field."""
        floors, promises = dict(state[0]), dict(state[1])
        if kind in ("take", "slide") and name not in floors:
            return NoFloor, name
        if kind == "keep":
            if name in promises:
                return Taken, name
            try:
                kept = value.is_kept(floors)
            except (NoFloor, NoLetter, TooMany) as error:
                return type(error), list(vars(error).values())[0]
            if not kept:
                return Barred, [name]
            return floors, {**promises, name: value}
        if kind == "free":
            if promises.pop(name, None) is None:
                return NoPromise, name
            return floors, promises
        if kind == "put":
            floors[name] = value
        elif kind == "take":
            del floors[name]
        elif kind == "slide":
            floors[name] = floors[name].shifted(value)
        else:
            floors = {one: floor.moved(value) for one, floor in floors.items()}
        broken = [one for one in sorted(promises) if not self.kept(promises[one], floors)]
        return (Barred, broken) if broken else (floors, promises)

    def drawn(self, draw):
        kind = draw.random.choice(["put", "put", "take", "slide", "move_all", "keep", "keep", "keep", "free", "undo"])
        name = draw.random.choice(["p", "q"] if kind in ("keep", "free") else ["one", "two"])
        value = {
            "put": draw.random.choice(self.FLOORS), "keep": draw.random.choice(self.PROMISES),
            "slide": Point(draw.random.randint(-2, 2), Ratio(draw.random.randint(0, 1), 2)),
            "move_all": draw.random.choice([
                Motion([[1, 0], [0, 1]], Point(1, 0)), Motion([[Ratio(1, 2), 0], [0, 1]]), Motion([[2, 0], [0, 1]]), Motion([[0, 1], [1, 0]]),
            ]),
        }.get(kind)
        return kind, name, value

    def do(self, desk, kind, name, value):
        if kind in ("undo",):
            desk.undo()
        elif kind in ("take", "free"):
            getattr(desk, kind)(name)
        elif kind == "move_all":
            desk.move_all(value)
        else:
            getattr(desk, kind)(name, value)

    def check(self, desk, states):
        floors, promises = states[-1]
        self.assertEqual(desk.undoable(), len(states) - 1)
        self.assertEqual(desk.promises(), tuple(sorted(promises)))
        self.assertEqual(desk.floors(), tuple(sorted(floors)))
        self.assertEqual(len(desk), len(floors))
        for name in ("one", "two", "p"):
            self.assertIs(name in desk, name in floors)
        for name in floors:
            self.assertTrue(desk[name] == floors[name])
        for promise in promises.values():
            self.assertTrue(promise.is_kept(floors))

    def step(self, draw, desk, states):
        """Does one deed, and tells whether it was refused."""
        kind, name, value = self.drawn(draw)
        if kind == "undo":
            if len(states) == 1:
                with self.assertRaises(NothingToUndo):
                    desk.undo()
                return True
            states.pop()
            desk.undo()
            return False
        first, second = self.expected(states[-1], kind, name, value)
        if isinstance(first, dict):
            self.do(desk, kind, name, value)
            states.append((first, second))
            return False
        with self.assertRaises(first) as caught:
            self.do(desk, kind, name, value)
        self.assertEqual(list(vars(caught.exception).values())[0], second)
        return True

    def test_histories(self):
        draw = Draw(160)
        refused, done = 0, 0
        for _ in range(12):
            desk, states = Desk(), [({}, {})]
            for _ in range(45):
                if self.step(draw, desk, states):
                    refused += 1
                else:
                    done += 1
                self.check(desk, states)
            while len(states) > 1:
                states.pop()
                desk.undo()
                self.check(desk, states)
            with self.assertRaises(NothingToUndo):
                desk.undo()
        self.assertGreater(refused, 80)
        self.assertGreater(done, 200)

    def test_attempts(self):
        """Deeds within attempts and explorations, some of which end in an error."""
        draw = Draw(161)
        for _ in range(25):
            desk, states = Desk(), [({}, {})]
            for _ in range(10):
                self.within(draw, desk, states, 3)
                self.check(desk, states)

    def within(self, draw, desk, states, depth):
        kind = draw.random.choice(["attempt", "failing", "explore", "exploring"]) if depth > 0 else "step"
        before = list(states)
        result = object()

        def action(one):
            self.assertIs(one, desk)
            for _ in range(draw.random.randint(0, 4)):
                if draw.random.random() < 0.3:
                    self.within(draw, draw.random.choice([one, desk]), states, depth - 1)
                else:
                    self.step(draw, draw.random.choice([one, desk]), states)
                self.check(one, states)
            if kind in ("failing", "exploring"):
                raise draw.random.choice([Failure("x"), ValueError("x"), FloorError(), KeyError("x"), SystemExit()])
            return result

        if kind == "step":
            self.step(draw, desk, states)
        elif kind == "attempt":
            self.assertIs(desk.attempt(action=action), result)
        elif kind == "explore":
            self.assertIs(desk.explore(action=action), result)
            states[:] = before
        else:
            with self.assertRaises((Failure, ValueError, KeyError, SystemExit)):
                (desk.attempt if kind == "failing" else desk.explore)(action)
            states[:] = before


class AttemptTest(unittest.TestCase):

    def setUp(self):
        self.desk = Desk()
        self.desk.put("one", BOARD)
        self.desk.keep("some", Thick("one", 1, 1))

    def test_results(self):
        for value in [None, 0, True, "x", [], Other(), nested(20), BOARD, self.desk]:
            self.assertIs(self.desk.attempt(lambda desk: value), value)
            self.assertIs(self.desk.explore(lambda desk: value), value)
        self.assertEqual(self.desk.undoable(), 2)

    def test_error_of_the_package(self):
        before = told(self.desk)

        def action(desk):
            desk.put("two", ROWS)
            desk.take("one")

        for call in (self.desk.attempt, self.desk.explore):
            with self.assertRaises(Barred) as caught:
                call(action)
            self.assertEqual(caught.exception.words, ["some"])
            self.assertEqual(told(self.desk), before)

    def test_any_error(self):
        before = told(self.desk)
        for error in [Failure(), Exception(), ValueError(), KeyboardInterrupt(), GeneratorExit(), StopIteration(), SystemExit()]:
            def action(desk):
                desk.free("some")
                self.desk.take("one")
                raise error

            for call in (self.desk.attempt, self.desk.explore):
                with self.assertRaises(type(error)) as caught:
                    call(action)
                self.assertIs(caught.exception, error)
                self.assertEqual(told(self.desk), before)

    def test_undo_within(self):
        """What is undone within, also of deeds from before, is there again behind an error and behind explore."""
        before = told(self.desk)

        def action(desk):
            desk.undo()
            desk.undo()
            self.assertEqual(desk.undoable(), 0)
            desk.put("three", ROWS)
            return desk.floors()

        def failing(desk):
            action(desk)
            raise Failure()

        self.assertEqual(self.desk.explore(action), ("three",))
        self.assertEqual(told(self.desk), before)
        with self.assertRaises(Failure):
            self.desk.attempt(failing)
        self.assertEqual(told(self.desk), before)
        self.desk.undo()
        self.assertEqual((self.desk.floors(), self.desk.promises()), (("one",), ()))
        self.desk.undo()
        self.assertEqual(self.desk.undoable(), 0)
        self.desk.put("one", BOARD)
        self.desk.put("one", ROWS)
        self.assertEqual(self.desk.attempt(action), ("three",))
        self.assertEqual((self.desk.floors(), self.desk.undoable()), (("three",), 1))

    def test_one_by_one(self):
        """The deeds of an attempt that ends well are taken back one by one."""
        def action(desk):
            desk.put("two", ROWS)
            desk.attempt(lambda inner: inner.slide("two", Point(1, 0)))
            desk.slide("two", Point(1, 0))

        self.desk.attempt(action)
        self.assertEqual(self.desk.undoable(), 5)
        for shift in (2, 1, 0):
            self.assertTrue(self.desk["two"] == ROWS.shifted(Point(shift, 0)))
            self.desk.undo()
        self.assertEqual(self.desk.floors(), ("one",))

    def test_one_within_another(self):
        def inner(desk):
            desk.put("two", ROWS)
            raise Failure()

        def outer(desk):
            before = desk.undoable()
            desk.put("three", ROWS)
            with self.assertRaises(Failure):
                desk.attempt(inner)
            self.assertEqual((desk.floors(), desk.undoable()), (("one", "three"), before + 1))
            desk.explore(lambda one: one.put("four", ROWS))
            return desk.undoable()

        self.assertEqual(self.desk.attempt(outer), 3)
        self.assertEqual(self.desk.floors(), ("one", "three"))
        self.assertEqual(self.desk.explore(outer), 4)
        self.assertEqual((self.desk.floors(), self.desk.undoable()), (("one", "three"), 3))

    def test_twelve(self):
        """Twelve floors with twelve promises and long numbers."""
        draw = Draw(162)
        desk = Desk()
        names = ["abcdefghijkl"[at] for at in range(12)]
        for name in names:
            lattice = Lattice([draw.point(HUNDRED), draw.point(HUNDRED)])
            desk.put(name, Floor([("x", Layer(draw.point(HUNDRED), lattice)), ("y", Layer(draw.point(HUNDRED), lattice))]))
        for at, name in enumerate(names):
            other = names[(at + 1) % 12]
            desk.keep(name, [Never(f"{name}.x & {name}.y"), Always(f"{name}.x", f"{name} | {other}"), Thick(name, 0, HUNDRED ** 3)][at % 3])
        desk.move_all(Motion([[3, 1], [0, 2]], Point(HUNDRED, 1)))
        self.assertEqual(desk.undoable(), 25)
        with self.assertRaises(Barred) as caught:
            desk.take("a")
        self.assertEqual(caught.exception.words, ["a"])
        with self.assertRaises(Barred) as caught:
            desk.take("c")
        self.assertEqual(caught.exception.words, ["b", "c"])


if __name__ == "__main__":
    unittest.main()
