"""Least keys of tiles and of pairs of tiles, and the motions that carry one to another.

A frame of a tile is a least base of its own lattice together with a mark. Seen from a frame, the
marks are told by integers, as a text. Tiles are alike if they have one shape and one least text; the
motions that carry one to the other then take frames with the least text to such frames.
"""

from overfloors.bases import least_bases
from overfloors.lattices import Lattice, common_bottom
from overfloors.layers import Layer
from overfloors.motions import Motion
from overfloors.points import cross
from overfloors.ratios import Ratio
from overfloors.tiles import rarest


def number_text(number):
    """A text of a Ratio; digits up to f can be written however many they are."""
    return f"{number.top:x}/{number.bottom:x}"


def bases_for(ground, lattice, mirrors):
    """The least bases that count: without mirrors those of one side only, which is the left one where it has any."""
    bases = least_bases(ground, lattice)
    left = [base for base in bases if cross(base.u, base.v) > 0]
    return bases if mirrors or len(left) == 0 else left


def whole_figures(base, marks, start):
    """An integer, and how many of its parts each mark is from a start along the base, by letters."""
    figures = {letter: [base.figures(point - start) for point in marks[letter]] for letter in marks}
    bottom = common_bottom([figure for letter in figures for pair in figures[letter] for figure in pair])
    return bottom, {
        letter: [(x.top * (bottom // x.bottom), y.top * (bottom // y.bottom)) for x, y in figures[letter]]
        for letter in figures
    }


def changed(figures, base, other, bottom):
    """Figures along a base as figures along another base of the same lattice, from 0 on and below the bottom."""
    first, second = [[figure.top for figure in other.figures(step)] for step in (base.u, base.v)]
    return {
        letter: [
            ((x * first[0] + y * second[0]) % bottom, (x * first[1] + y * second[1]) % bottom)
            for x, y in figures[letter]
        ]
        for letter in figures
    }


def text_from(figures, bottom, start):
    """The text of all marks as they are seen from one of them, told by figures from 0 on and below the bottom."""
    told = []
    for letter in figures:
        # Divisions of numbers as long as these may be would take far longer than sums.
        rests = [(x - start[0], y - start[1]) for x, y in figures[letter]]
        rests = [(x if x >= 0 else x + bottom, y if y >= 0 else y + bottom) for x, y in rests]
        seen = ",".join(sorted([f"{x:x}.{y:x}" for x, y in rests]))
        told.append(f"{letter}:{seen}")
    return " ".join(told)


class Frames:
    """The frames of a tile with the least text, as the motions that take figures to points."""

    def __init__(self, ground, tile, mirrors):
        bases = bases_for(ground, tile.lattice, mirrors)
        marks = {letter: tile.marks(letter) for letter in tile.letters()}
        rare = rarest(marks, tile.letters())
        bottom, figures = whole_figures(bases[0], marks, marks[rare][0])
        found = []
        for base in bases:
            seen = changed(figures, bases[0], base, bottom)
            for point, start in zip(marks[rare], seen[rare]):
                motion = Motion([[base.u.x, base.v.x], [base.u.y, base.v.y]], point)
                found.append((text_from(seen, bottom, start), motion))
        least = min([str(text) for text, _ in found])
        self.motions = tuple([motion for text, motion in found if text == least])
        self.shape = bases[0].shape
        side = "right" if not mirrors and cross(bases[0].u, bases[0].v) < 0 else "left"
        self.text = f"{side} {bottom:x} {least}"

    def key(self, stretch):
        """A text that tiles have in common exactly if they are alike, if asked for also by stretching."""
        part = self.shape[0] if stretch else Ratio(1)
        shape = " ".join([number_text(figure.over(part)) for figure in self.shape])
        return f"{shape} {self.text}"


def least_key(ground, tile, *, mirrors=True, stretch=False):
    """A text that is the same exactly for alike tiles."""
    return Frames(ground, tile, mirrors).key(stretch)


def motions_between(frames, others, stretch):
    """The motions that take the one tile to the other, one for each table."""
    if frames.key(stretch) != others.key(stretch):
        return []
    back = ~frames.motions[0]
    return [motion * back for motion in others.motions]


def alike(ground, tile, other_ground, other, *, mirrors=True, stretch=False):
    """A motion that carries the one tile to the other, or None."""
    found = motions_between(Frames(ground, tile, mirrors), Frames(other_ground, other, mirrors), stretch)
    return found[0] if len(found) > 0 else None


def pair_key(ground, one, other, *, mirrors=True):
    """A text that is the same exactly for alike pairs of tiles."""
    first, second = Frames(ground, one, mirrors), Frames(ground, other, mirrors)
    texts = []
    for motion in first.motions:
        back = ~motion
        # How the frames of both tiles lie to one another; a shift can be exchanged for one
        # that differs by an own step of either tile.
        steps = Lattice.square(1) + other.lattice.moved(back)
        for there in second.motions:
            seen = back * there
            rest = steps.rest(seen.shift)
            told = [*seen.table[0], *seen.table[1], rest.x, rest.y]
            texts.append(" ".join([number_text(number) for number in told]))
    least = min([str(text) for text in texts])
    return f"{first.key(False)} {second.key(False)} {least}"


def in_both(motions, lattice, others, other_lattice):
    """The motions that two lists have in common, if shifts differ by members of the two lattices."""
    found = []
    for motion in motions:
        for other in others:
            if motion.table == other.table:
                common = Layer(motion.shift, lattice) & Layer(other.shift, other_lattice)
                if common is not None:
                    found.append(Motion(motion.table, common.point))
    return found


def alike_pairs(ground, one, other, other_ground, third, fourth, *, mirrors=True):
    """A motion that carries the tile one to the third one and the other one to the fourth one, or None."""
    first = motions_between(Frames(ground, one, mirrors), Frames(other_ground, third, mirrors), False)
    second = motions_between(Frames(ground, other, mirrors), Frames(other_ground, fourth, mirrors), False)
    found = in_both(first, third.lattice, second, fourth.lattice)
    return found[0] if len(found) > 0 else None
