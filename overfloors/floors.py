"""Floors: letters on layers that have no point in common."""

from overfloors.errors import BadLetter, NoLetter, Overlap, TooMany
from overfloors.layers import meet
from overfloors.places import Places
from overfloors.ratios import Ratio
from overfloors.tiles import is_word

MOST = 6


def check_laid(laid):
    """Raises an error unless pairs (letter, layer) can be laid side by side."""
    for letter, _ in laid:
        if not is_word(letter):
            raise BadLetter(letter)
    if len(laid) > MOST:
        raise TooMany(MOST)
    for second in range(len(laid)):
        for first in range(second):
            if meet(laid[first][1], laid[second][1]):
                raise Overlap(first, second)


class Floor:
    """A floor, told by pairs (letter, layer)."""

    def __init__(self, laid):
        check_laid(laid)
        self.laid = tuple([(letter, layer) for letter, layer in laid])

    def letters(self):
        """The letters, each once, ascending."""
        return tuple(sorted(set([str(letter) for letter, _ in self.laid])))

    def layers_of(self, letter):
        """The layers that are laid with a letter, in the order of laid; of all letters for None."""
        return [layer for one, layer in self.laid if letter is None or one == letter]

    def places(self, letter=None):
        """The set of the points that have a letter, or that have any one."""
        if letter is not None and letter not in self.letters():
            raise NoLetter(letter)
        return Places(self.layers_of(letter))

    def letter_at(self, point):
        """The letter of a point, or None."""
        for letter, layer in self.laid:
            if point in layer:
                return letter
        return None

    def thick_of(self, letter):
        """The number of points with a letter on each unit of area."""
        total = Ratio(0)
        for one, layer in self.laid:
            if one == letter:
                total = total + layer.thickness
        return total

    def shifted(self, point):
        """The floor moved by a point."""
        return Floor([(letter, layer.shifted(point)) for letter, layer in self.laid])

    def moved(self, motion):
        """The floor of the images of the points."""
        return Floor([(letter, layer.moved(motion)) for letter, layer in self.laid])

    def without(self, letter):
        """The floor without the points of a letter."""
        if letter not in self.letters():
            raise NoLetter(letter)
        return Floor([(one, layer) for one, layer in self.laid if one != letter])

    def renamed(self, names):
        """The floor with other letters, by a dict; letters that are missing there stay."""
        return Floor([(names.get(letter, letter), layer) for letter, layer in self.laid])

    def __eq__(self, other):
        if not isinstance(other, Floor) or self.letters() != other.letters():
            return False
        common = meetings(self, other)
        thick = [(letter, self.thick_of(letter), other.thick_of(letter)) for letter in self.letters()]
        return all([first == second and common.get((letter, letter)) == first for letter, first, second in thick])

    def __or__(self, other):
        if not isinstance(other, Floor):
            return NotImplemented
        return Floor([*self.laid, *other.laid])

    def __and__(self, other):
        if not isinstance(other, Floor):
            return NotImplemented
        return Floor([(letter, common) for letter, another, common in common_parts(self, other) if letter == another])


def common_parts(one, other):
    """Triples of two letters and the layer of points that have them on two floors, where there are some."""
    found = []
    for letter, layer in one.laid:
        for another, beside in other.laid:
            common = layer & beside
            if common is not None:
                found.append((letter, another, common))
    return found


def meetings(one, other):
    """A dict from pairs of letters, one of each floor, to how thick the points lie that have both."""
    found = {}
    for letter, another, common in common_parts(one, other):
        found[letter, another] = found.get((letter, another), Ratio(0)) + common.thickness
    return found
