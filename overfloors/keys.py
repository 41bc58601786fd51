"""Least keys of tiles and of pairs of tiles, and the motions that carry one to another.

A frame of a tile is a least base of its own lattice together with a mark. Seen from a frame, the
marks are told by integers, as a text. Tiles are alike if they have one shape and one least text; the
motions that carry one to the other then take frames with the least text to such frames.
"""

from overfloors.bases import all_least_rows, least_rows, row_point
from overfloors.lattices import Lattice, common_bottom
from overfloors.layers import Layer
from overfloors.motions import Motion
from overfloors.ratios import Ratio
from overfloors.tiles import rarest


def number_text(number):
    """A text of a Ratio; digits up to f can be written however many they are."""
    return f"{number.top:x}/{number.bottom:x}"


def area_of(one, other):
    """The area of two rows of integers."""
    return one[0] * other[1] - one[1] * other[0]


def least_for(u, v, shape, mirrors):
    """The least bases that count: without mirrors those of one side only, which is the left one where it has any.

    They are told as pairs of the steps that lead to them from (u, v), and of their rows.
    """
    found = all_least_rows(u, v, shape)
    left = [pair for pair in found if area_of(pair[1][0], pair[1][1]) > 0]
    return found if mirrors or len(left) == 0 else left


def figures_along(times, u, v, point):
    """The Ratios x and y with x u + y v = the point, for rows of integers of a lattice that is taken so many times."""
    across, upward = point.x.bottom, point.y.bottom
    row = point.x.top * upward * times, point.y.top * across * times
    bottom = area_of(u, v) * across * upward
    return Ratio(area_of(row, v), bottom), Ratio(area_of(u, row), bottom)


def whole_figures(times, rows, marks, start):
    """An integer, and how many of its parts each mark is from a start along the rows, by letters."""
    u, v = rows
    figures = {letter: [figures_along(times, u, v, point - start) for point in marks[letter]] for letter in marks}
    bottom = common_bottom([figure for letter in figures for pair in figures[letter] for figure in pair])
    return bottom, {
        letter: [(x.top * (bottom // x.bottom), y.top * (bottom // y.bottom)) for x, y in figures[letter]]
        for letter in figures
    }


def changed(figures, steps, bottom):
    """Figures along a base as figures along the base that steps from it make, from 0 on and below the bottom."""
    (i, j), (m, n) = steps
    side = i * n - j * m
    return {
        letter: [((x * n - y * m) * side % bottom, (y * i - x * j) * side % bottom) for x, y in figures[letter]]
        for letter in figures
    }


def text_from(figures, bottom, start):
    """The text of all marks as they are seen from one of them, told by figures from 0 on and below the bottom."""
    told = []
    for letter in figures:
        # Divisions of numbers as long as these may be would take far longer than sums.
        rests = [(x - start[0], y - start[1]) for x, y in figures[letter]]
        rests = [(x if x >= 0 else x + bottom, y if y >= 0 else y + bottom) for x, y in rests]
        seen = ",".join(sorted([f"{x:x}.{y:x}" for x, y in rests]))
        told.append(f"{letter}:{seen}")
    return " ".join(told)


class Frames:
    """The frames of a tile with the least text."""

    def __init__(self, ground, tile, mirrors):
        self.times, u, v, self.shape = least_rows(ground, tile.lattice)
        bases = least_for(u, v, self.shape, mirrors)
        marks = {letter: tile.marks(letter) for letter in tile.letters()}
        rare = rarest(marks, tile.letters())
        bottom, figures = whole_figures(self.times, (u, v), marks, marks[rare][0])
        found = []
        for steps, rows in bases:
            seen = changed(figures, steps, bottom)
            found.extend([
                (text_from(seen, bottom, start), rows, point) for point, start in zip(marks[rare], seen[rare])
            ])
        least = min([str(text) for text, _, _ in found])
        self.ends = tuple([(rows, point) for text, rows, point in found if text == least])
        side = "right" if not mirrors and area_of(bases[0][1][0], bases[0][1][1]) < 0 else "left"
        self.text = f"{side} {bottom:x} {least}"

    def key(self, stretch):
        """A text that tiles have in common exactly if they are alike, if asked for also by stretching."""
        part = self.shape[0] if stretch else self.times * self.times
        shape = " ".join([number_text(Ratio(figure, part)) for figure in self.shape])
        return f"{shape} {self.text}"

    def motions(self):
        """The motions that take figures along the frames to points."""
        found = []
        for rows, point in self.ends:
            u, v = row_point(rows[0], self.times), row_point(rows[1], self.times)
            found.append(Motion([[u.x, v.x], [u.y, v.y]], point))
        return found


def least_key(ground, tile, *, mirrors=True, stretch=False):
    """A text that is the same exactly for alike tiles."""
    return Frames(ground, tile, mirrors).key(stretch)


def motions_between(frames, others, stretch):
    """The motions that take the one tile to the other, one for each table."""
    if frames.key(stretch) != others.key(stretch):
        return []
    back = ~frames.motions()[0]
    return [motion * back for motion in others.motions()]


def alike(ground, tile, other_ground, other, *, mirrors=True, stretch=False):
    """A motion that carries the one tile to the other, or None."""
    found = motions_between(Frames(ground, tile, mirrors), Frames(other_ground, other, mirrors), stretch)
    return found[0] if len(found) > 0 else None


def pair_key(ground, one, other, *, mirrors=True):
    """A text that is the same exactly for alike pairs of tiles."""
    first, second = Frames(ground, one, mirrors), Frames(ground, other, mirrors)
    texts = []
    ends = second.motions()
    for motion in first.motions():
        back = ~motion
        # How the frames of both tiles lie to one another; a shift can be exchanged for one
        # that differs by an own step of either tile.
        steps = Lattice.square(1) + other.lattice.moved(back)
        for there in ends:
            seen = back * there
            rest = steps.rest(seen.shift)
            told = [*seen.table[0], *seen.table[1], rest.x, rest.y]
            texts.append(" ".join([number_text(number) for number in told]))
    least = min([str(text) for text in texts])
    return f"{first.key(False)} {second.key(False)} {least}"


def in_both(motions, lattice, others, other_lattice):
    """The motions that two lists have in common, if shifts differ by members of the two lattices."""
    found = []
    for motion in motions:
        for other in others:
            if motion.table == other.table:
                common = Layer(motion.shift, lattice) & Layer(other.shift, other_lattice)
                if common is not None:
                    found.append(Motion(motion.table, common.point))
    return found


def alike_pairs(ground, one, other, other_ground, third, fourth, *, mirrors=True):
    """A motion that carries the tile one to the third one and the other one to the fourth one, or None."""
    first = motions_between(Frames(ground, one, mirrors), Frames(other_ground, third, mirrors), False)
    second = motions_between(Frames(ground, other, mirrors), Frames(other_ground, fourth, mirrors), False)
    found = in_both(first, third.lattice, second, fourth.lattice)
    return found[0] if len(found) > 0 else None
