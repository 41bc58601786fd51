"""Tiles: letters at the places of layers, told by one cell."""

from overfloors.errors import BadLetter, BadPoint, Clash, NoLetter, NoMarks, TooMany
from overfloors.lattices import Lattice
from overfloors.layers import Layer
from overfloors.points import Point, ascending_points

MOST_SIGNS = 8
MOST_MARKS = 24


def is_word(value):
    """True for strings of 1 to 8 letters from a to z."""
    if not isinstance(value, str) or len(value) == 0 or len(value) > MOST_SIGNS:
        return False
    return all(["a" <= sign and sign <= "z" for sign in value])


def key_of(point):
    """Four integers that tell a point."""
    return point.x.top, point.x.bottom, point.y.top, point.y.bottom


def letters_of(marks):
    """The letters of a dict of marks, ascending; the first errors of a Tile come here."""
    for letter in marks:
        if not is_word(letter):
            raise BadLetter(letter)
    if len(marks) == 0 or any([len(marks[letter]) == 0 for letter in marks]):
        raise NoMarks()
    letters = sorted([str(letter) for letter in marks])
    for letter in letters:
        for point in marks[letter]:
            if not isinstance(point, Point):
                raise BadPoint(point)
    if sum([len(marks[letter]) for letter in letters]) > MOST_MARKS:
        raise TooMany(MOST_MARKS)
    return letters


def rests_of(lattice, points):
    """The rests of some points, each once, ordered by x, then by y."""
    if len(points) == 1:
        return [lattice.rest(points[0])]
    found = {}
    for point in points:
        rest = lattice.rest(point)
        found[key_of(rest)] = rest
    return ascending_points([found[key] for key in found])


def letters_at(marks):
    """A dict from what tells each rest to its letter, of several the last one."""
    return {key_of(rest): letter for letter in marks for rest in marks[letter]}


def first_clash(marks):
    """The least two letters that have a rest in common, where some have; the letters ascend."""
    at = {}
    for letter in marks:
        for rest in marks[letter]:
            at.setdefault(key_of(rest), []).append(letter)
    clashes = [(at[key][0], at[key][1]) for key in at if len(at[key]) > 1]
    least = clashes[0]
    for clash in clashes:
        if clash < least:
            least = clash
    return least


def is_own_step(lattice, marks, at, step):
    """True if each rest, moved by a step, is one of the same letter."""
    for letter in marks:
        for rest in marks[letter]:
            if at.get(key_of(lattice.rest(rest + step))) != letter:
                return False
    return True


def rarest(marks, letters):
    """The letter with the fewest rests, of several the first one."""
    found = letters[0]
    for letter in letters:
        if len(marks[letter]) < len(marks[found]):
            found = letter
    return found


def own_steps(lattice, marks, at):
    """Steps that make the lattice of all steps that take each letter to itself, together with a lattice of such."""
    # An own step takes any rest to one of the same letter.
    rests = marks[rarest(marks, list(marks))]
    steps = [rest - rests[0] for rest in rests[1:]]
    return [step for step in steps if is_own_step(lattice, marks, at, step)]


class Tile:
    """Letters at places that repeat by a lattice, told by the own lattice and the marks in its oblong."""

    def __init__(self, lattice, marks):
        letters = letters_of(marks)
        rests = {letter: rests_of(lattice, marks[letter]) for letter in letters}
        at = letters_at(rests)
        if len(at) < sum([len(rests[letter]) for letter in letters]):
            letter, other = first_clash(rests)
            raise Clash(letter, other)
        steps = own_steps(lattice, rests, at)
        if len(steps) > 0:
            lattice = Lattice([*lattice.rows(), *steps])
            rests = {letter: rests_of(lattice, rests[letter]) for letter in letters}
            at = letters_at(rests)
        self.lattice = lattice
        self._marks = rests
        self._at = at

    def letters(self):
        """The letters, ascending."""
        return list(self._marks)

    def marks(self, letter):
        """The points of a letter in the oblong of the own lattice, ordered by x, then by y."""
        if letter not in self.letters():
            raise NoLetter(letter)
        return list(self._marks[letter])

    def layers_of(self, letter):
        """The layers of a letter with the own lattice, in the order of its marks."""
        return [Layer(point, self.lattice) for point in self.marks(letter)]

    def letter_at(self, point):
        """The letter at a point, or None."""
        return self._at.get(key_of(self.lattice.rest(point)))

    def moved(self, motion):
        """The image of the tile."""
        return Tile(self.lattice.moved(motion), {
            letter: [motion(point) for point in self._marks[letter]] for letter in self._marks
        })

    def __eq__(self, other):
        return isinstance(other, Tile) and self.lattice == other.lattice and self._at == other._at
